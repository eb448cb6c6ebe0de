/-
  Texts of layer 14 and of what it stands on, one behind the other.
-/
import Derived.Test.YtihahckjcedceaaDoorMg39

/- Layer 14, the program's own: Get. -/
namespace Go.Proofs.YtihahckjcedceaaDoor
set_option linter.unusedVariables false
set_option linter.unusedSimpArgs false
open Go.RowKit

instance : DecidableEq Ky := fun x y => decidable_of_iff (x.u = y.u ∧ x.q = y.q ∧ x.k = y.k) (by cases x; cases y; simp)
/-- What Get tells of the place that is read. -/
def getRec (R : Option (Ky × ByteArray)) (x : Ky) : ByteArray × Int := match R with
  | some (y, v) => if y = x then (v, 0) else (⟨#[]⟩, 140)
  | none => (⟨#[]⟩, 140)
noncomputable def vgetR (m : Dev) (z t n : Int) (x : Ky) : ByteArray × Int :=
  if RtV z t n then (if (raR m z t (sizeL n.toNat)).2 = 0 then getRec (rrR (raR m z t (sizeL n.toNat)).1) x else (⟨#[]⟩, (raR m z t (sizeL n.toNat)).2)) else (⟨#[]⟩, 140)
theorem raR_len {m : Dev} (hw : WF m) (z t s : Int) : (raR m z t s).1.length ≤ 65536 := by
  unfold raR
  split
  · split
    · rename_i h1 h2
      obtain ⟨x, hx⟩ : ∃ x, scanL (rdB m z t s) = [x] := List.length_eq_one_iff.1 h2.1
      have h3 := (scanL_is (rdB m z t s)).le
      have h4 := rdB_le hw z t s
      rw [hx] at h3 ⊢
      have h5 : (framesL [x]).length = (frameL x).length := by
        show (frameL x ++ []).length = _
        rw [List.append_nil]
      rw [h5, frameL_length] at h3
      have := sizeL_pos x.length
      show x.length ≤ 65536
      omega
    · simp
  · simp
section
variable {L : Nat → Prop} {w : World} {g d : Nat} {F : Nat → Prop} {m : Dev} {v : Value} {zs : List Int}
set_option maxRecDepth 20000 in
set_option maxHeartbeats 6400000 in
theorem vget_c (h : Ld L w g d F m v zs) (hw : WF m) (ht : Tab w) (z t n : Int) (x : Ky) :
    Calls Tryd.prog 28 #[.pointer (some ⟨g, 0, none⟩), ptV z t n, kyV x] w (PlainRet (.tuple #[.string (vgetR m z t n x).1, .int .i64 (vgetR m z t n x).2]) w) := by
  have HG : Hid (vgetR m z t n x = if RtV z t n then (if (raR m z t (sizeL n.toNat)).2 = 0 then getRec (rrR (raR m z t (sizeL n.toNat)).1) x else (⟨#[]⟩, (raR m z t (sizeL n.toNat)).2)) else (⟨#[]⟩, 140)) := Lib.hid rfl
  obtain ⟨W0, hW0⟩ : ∃ W, (w.alloc (.cells #[.int .i64 z, .int .i64 t, .int .i64 n] 23)).alloc (.cells #[.string x.u, .int .i64 x.q, .int .i64 x.k] 43) = W := ⟨_, rfl⟩
  have f0 : Fr No w W0 := by rw [← hW0]; exact ((Fr.refl No w).alloc _).alloc _
  have K0 : At W0 (w.heap.size + 1) 43 #[.string x.u, .int .i64 x.q, .int .i64 x.k] := by
    have h := At.new (w.alloc (.cells #[.int .i64 z, .int .i64 t, .int .i64 n] 23)) 43 #[.string x.u, .int .i64 x.q, .int .i64 x.k]
    rw [World.size_alloc] at h
    rw [← hW0]
    exact h
  have P0 : At W0 w.heap.size 23 #[.int .i64 z, .int .i64 t, .int .i64 n] := by rw [← hW0]; exact (At.new w _ _).keep ((Fr.refl No _).alloc _) (fun h => h)
  have p0 := P0.cell 0
  have p1 := P0.cell 1
  have p2 := P0.cell 2
  simp at p0 p1 p2
  have HK := Lib.hid K0
  have HF := Lib.hid f0
  generalize vgetR m z t n x = G at *
  unfold ptV kyV
  by_cases hr : RtV z t n
  · rw [if_pos hr] at HG
    have CC := Lib.hid (fun w => vcheck_c z t n w)
    unfold ptV at CC
    rw [if_pos hr] at CC
    obtain ⟨h1, h2, h3, h4, h5, h6⟩ := hr
    obtain ⟨kn, rfl⟩ : ∃ k : Nat, n = (k : Int) := ⟨n.toNat, by omega⟩
    rw [Int.toNat_natCast] at HG
    have hsz := sizeL_le (n := kn) (by omega)
    have CR := Lib.hid (fun (w' : World) (f : Fr No w w') => lreadat_c (h.keep f (fun _ _ h => h)) hw (ht.keep f (fun h => h)) z t (kn : Int) (sizeL kn : Int) (wf_small (by omega) (by omega)) (wf_small (by omega) (by omega)) (fun w => fsize_c kn w (by omega)))
    have HL := Lib.hid (raR_len hw z t (sizeL kn : Int))
    obtain ⟨⟨rl, re⟩, hR⟩ : ∃ r, raR m z t (sizeL kn : Int) = r := ⟨_, rfl⟩
    rw [hR] at CR HG HL
    have HL : Hid (rl.length ≤ 65536) := HL
    have HG : Hid (G = if re = 0 then getRec (rrR rl) x else (⟨#[]⟩, re)) := HG
    clear P0 K0 f0 h hw ht hR h1 h2 h3 h4 h5 h6 hsz
    go_enter Tryd.func28, Tryd.ntmps28
    go_wp2_with fail
    try rw [hW0]
    try go_wp2_with fail
    refine (CC.out _).mono ?_
    rintro e w1 ⟨rfl, hf1⟩
    have HF1 := Lib.hid (HF.out.trans hf1)
    have HK1 := Lib.hid (HK.out.keep hf1 (fun h => h))
    have p0 := hf1.cell p0 (fun h => h)
    have p1 := hf1.cell p1 (fun h => h)
    have p2 := hf1.cell p2 (fun h => h)
    have CR1 := Lib.hid (CR.out w1 HF1.out)
    clear CC CR hf1 HF HK
    go_wp2_with fail
    refine (show Calls _ _ _ _ _ from CR1.out).mono ?_
    rintro e w2 ⟨ra, rc, rfl, rin, hf2⟩
    have HF2 := Lib.hid (HF1.out.trans hf2)
    have HK2 := Lib.hid (HK1.out.keep hf2 (fun h => h))
    have HRIN := Lib.hid rin
    obtain ⟨rn, hrn⟩ : ∃ n, rl.length = n := ⟨_, rfl⟩
    have HRN := Lib.hid hrn
    simp only [hrn] at HL ⊢
    clear rin hf2 CR1 HF1 HK1 hrn
    by_cases he : re = 0
    · subst he
      have CRR := Lib.hid (readRecord_c ra rn rc rl w2 HRN.out (by have := HL.out; omega) HRIN.out.rd)
      clear HRIN
      go_wp2_with fail
      refine (show Calls _ _ _ _ _ from CRR.out).mono ?_
      rintro e w3 ⟨hf3, hret⟩
      have HF3 := Lib.hid (HF2.out.trans hf3)
      have K3 := HK2.out.keep hf3 (fun h => h)
      clear hf3 CRR HK2
      rcases hret with ⟨hnn, rfl⟩ | ⟨y, s, hss, _, rfl⟩
      · have HO : Hid (G = (⟨#[]⟩, 140)) := Lib.hid (by rw [HG.out, if_pos trivial, hnn]; rfl)
        have f4 := HF3.out.alloc (.cells #[.string ⟨#[]⟩, .int .i64 0, .int .i64 0] 43)
        have HF4 := Lib.hid f4
        unfold kyV ky0
        clear f4 HG hnn K3
        go_wp2_with fail
        go_ret2
        exact ⟨by rw [HO.out]; rfl, HF4.out⟩
      · have HO : Hid (G = if y = x then (s, 0) else (⟨#[]⟩, 140)) := Lib.hid (by rw [HG.out, if_pos trivial, hss]; rfl)
        have K4 := K3.keep ((Fr.refl No w3).alloc (.cells #[.string y.u, .int .i64 y.q, .int .i64 y.k] 43)) (fun h => h)
        have Y4 := At.new w3 43 #[.string y.u, .int .i64 y.q, .int .i64 y.k]
        have HF4 := Lib.hid (HF3.out.alloc (.cells #[.string y.u, .int .i64 y.q, .int .i64 y.k] 43))
        have c0 := K4.cell 0
        have c1 := K4.cell 1
        have c2 := K4.cell 2
        have y0 := Y4.cell 0
        have y1 := Y4.cell 1
        have y2 := Y4.cell 2
        simp at c0 c1 c2 y0 y1 y2
        obtain ⟨yu, yq, yk⟩ := y
        obtain ⟨xu, xq, xk⟩ := x
        simp only [Ky.mk.injEq] at HO
        unfold kyV
        simp only at c0 c1 c2 y0 y1 y2
        clear K3 K4 Y4 HG hss
        by_cases e1 : yu = xu
        · subst e1
          by_cases e2 : yq = xq
          · subst e2
            by_cases e3 : yk = xk
            · subst e3
              have HO2 : Hid (G = (s, 0)) := Lib.hid (HO.out.trans (if_pos ⟨rfl, rfl, rfl⟩))
              clear HO
              go_wp2_with fail
              go_ret2
              exact ⟨by rw [HO2.out]; rfl, HF4.out⟩
            · have HO2 : Hid (G = (⟨#[]⟩, 140)) := Lib.hid (HO.out.trans (if_neg fun h => e3 h.2.2))
              clear HO
              go_wp2_with fail
              go_ret2
              exact ⟨by rw [HO2.out]; rfl, HF4.out⟩
          · have HO2 : Hid (G = (⟨#[]⟩, 140)) := Lib.hid (HO.out.trans (if_neg fun h => e2 h.2.1))
            clear HO
            go_wp2_with fail
            go_ret2
            exact ⟨by rw [HO2.out]; rfl, HF4.out⟩
        · have HO2 : Hid (G = (⟨#[]⟩, 140)) := Lib.hid (HO.out.trans (if_neg fun h => e1 h.1))
          have e1' : ¬ yu.toList = xu.toList := fun h => e1 (by
            rw [ByteArray.toList_eq, ByteArray.toList_eq] at h
            exact ByteArray.ext (Array.toList_inj.1 h))
          clear HO e1
          go_wp2_with fail
          go_ret2
          exact ⟨by rw [HO2.out]; rfl, HF4.out⟩
    · have e1 : (re != 0) = true := by rw [bne_iff_ne]; exact he
      have HO : Hid (G = (⟨#[]⟩, re)) := Lib.hid (HG.out.trans (if_neg he))
      clear he HG HRIN
      go_wp2_with fail
      go_ret2
      exact ⟨by rw [HO.out]; rfl, HF2.out⟩
  · have HO : Hid (G = (⟨#[]⟩, 140)) := Lib.hid (HG.out.trans (if_neg hr))
    have CC := Lib.hid (fun w => vcheck_c z t n w)
    unfold ptV at CC
    rw [if_neg hr] at CC
    clear P0 K0 f0 h hw ht hr HG
    go_enter Tryd.func28, Tryd.ntmps28
    go_wp2_with fail
    try rw [hW0]
    try go_wp2_with fail
    refine (CC.out _).mono ?_
    rintro e w1 ⟨rfl, hf1⟩
    have HF1 := Lib.hid (HF.out.trans hf1)
    clear hf1
    go_wp2_with fail
    go_ret2
    exact ⟨by rw [HO.out]; rfl, HF1.out⟩
end
end Go.Proofs.YtihahckjcedceaaDoor
