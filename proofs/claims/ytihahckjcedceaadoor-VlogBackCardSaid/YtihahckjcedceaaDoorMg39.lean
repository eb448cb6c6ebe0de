/-
  Texts of layer 14 and of what it stands on, one behind the other.
-/
import Derived.Test.YtihahckjcedceaaDoorMg35
import Derived.Test.YtihahckjcedceaaDoorMg36
import Derived.Test.YtihahckjcedceaaDoorMg38

/- Layer 14, the program's own: Put, Get. -/
namespace Go.Proofs.YtihahckjcedceaaDoor
set_option linter.unusedVariables false
set_option linter.unusedSimpArgs false
open Go.RowKit

/-- What Put tells of a record. -/
def putT (m : Dev) (zs : List Int) (l : List UInt8) : Int × Int × Int × Int :=
  if (appT m zs l).2.2 = 0 then ((appT m zs l).1, (appT m zs l).2.1, (l.length : Int), 0) else (0, 0, 0, (appT m zs l).2.2)
def PutPost (L : Nat → Prop) (g d : Nat) (v : Value) (zs : List Int) (r : Int × Int × Int × Int) (m' : Dev) (w : World) (e : Ending) (w' : World) : Prop :=
  e = .returned (.tuple #[ptV r.1 r.2.1 r.2.2.1, .int .i64 r.2.2.2]) ∧ (∃ F', Ld (Gr L w w') w' g d F' m' v zs) ∧ Fr L w w'
theorem vput_results (tmps : Array Value) (w : World) (g : Nat) (t : TypeId) (x y z e : Value) (hp : tmps.getD 6 undef = .pointer (some ⟨g, 0, none⟩)) (he : tmps.getD 7 undef = e) (hg : At w g t #[x, y, z]) :
    (results Tryd.f20 tmps).run Tryd.prog w = .ok (.tuple #[.agg #[x, y, z], e]) w := by
  have hp' : tmps[6]?.getD undef = .pointer (some ⟨g, 0, none⟩) := by simpa using hp
  have he' : tmps[7]?.getD undef = e := by simpa using he
  have hl := run_loadVar_row (P := Tryd.prog) w g t 23 #[x, y, z] (0, 0) _ hg Tryd.underlying23 rfl infoPt
  simp [results, Tryd.results20, hp', he', asAddr, hl]
/-- A block's three cells set, that is not of L. -/
theorem Ld.three {L : Nat → Prop} {w : World} {g d : Nat} {F : Nat → Prop} {m : Dev} {v : Value} {zs : List Int} (h : Ld L w g d F m v zs) {b : Nat} (hb : ¬ L b) (x y z : Value) :
    Ld L (((w.setCell ⟨b, 0, none⟩ x).setCell ⟨b, 1, none⟩ y).setCell ⟨b, 2, none⟩ z) g d F m v zs := by
  have f : Fr (One b) w (((w.setCell ⟨b, 0, none⟩ x).setCell ⟨b, 1, none⟩ y).setCell ⟨b, 2, none⟩ z) :=
    (((Fr.refl (One b) w).setCell (p := ⟨b, 0, none⟩) (fun _ => (rfl : b = b)) _).setCell (p := ⟨b, 1, none⟩) (fun _ => (rfl : b = b)) _).setCell (p := ⟨b, 2, none⟩) (fun _ => (rfl : b = b)) _
  exact h.keep f fun k hk hh => hb (by have hh : k = b := hh; rw [← hh]; exact hk)
section
variable {L : Nat → Prop} {w : World} {g d : Nat} {F : Nat → Prop} {m : Dev} {v : Value} {zs : List Int}
theorem size_three (w : World) (b : Nat) (x y z : Value) : (((w.setCell ⟨b, 0, none⟩ x).setCell ⟨b, 1, none⟩ y).setCell ⟨b, 2, none⟩ z).heap.size = w.heap.size := by simp [World.setCell]
set_option maxRecDepth 20000 in
set_option maxHeartbeats 3200000 in
theorem vput_no (x : Ky) (s : ByteArray) (w : World) (g : Nat) (hx : ¬ x.rt) :
    Calls Tryd.prog 20 #[.pointer (some ⟨g, 0, none⟩), kyV x, .string s] w (PlainRet (.tuple #[ptV 0 0 0, .int .i64 30]) w) := by
  have CB := Lib.hid (fun w => bytes_no x.u x.q x.k w hx)
  obtain ⟨W0, hW0⟩ : ∃ W, (w.alloc (.cells #[.string x.u, .int .i64 x.q, .int .i64 x.k] 43)).alloc (.cells #[.int .i64 0, .int .i64 0, .int .i64 0] 23) = W := ⟨_, rfl⟩
  have f0 : Fr No w W0 := by rw [← hW0]; exact ((Fr.refl No w).alloc _).alloc _
  have A0 : At W0 (w.heap.size + 1) 23 #[.int .i64 0, .int .i64 0, .int .i64 0] := by
    have h := At.new (w.alloc (.cells #[.string x.u, .int .i64 x.q, .int .i64 x.k] 43)) 23 #[.int .i64 0, .int .i64 0, .int .i64 0]
    rw [World.size_alloc] at h
    rw [← hW0]
    exact h
  have k0 : At W0 w.heap.size 43 #[.string x.u, .int .i64 x.q, .int .i64 x.k] := by rw [← hW0]; exact (At.new w _ _).keep ((Fr.refl No _).alloc _) (fun h => h)
  have q0 := k0.cell 0
  have q1 := k0.cell 1
  have q2 := k0.cell 2
  simp at q0 q1 q2
  have HA := Lib.hid A0
  have HF := Lib.hid f0
  unfold kyV
  clear A0 k0 f0 hx
  go_enter Tryd.func20, Tryd.ntmps20
  go_wp2_with fail
  refine (CB.out _).mono ?_
  rintro e w1 ⟨rfl, hf1⟩
  have HF1 := Lib.hid (HF.out.trans hf1)
  have A1 := HA.out.keep hf1 (fun h => h)
  have c0 := A1.cell 0
  have c1 := A1.cell 1
  have c2 := A1.cell 2
  have g0 := A1.frozen 0
  have g1 := A1.frozen 1
  have g2 := A1.frozen 2
  simp at c0 c1 c2
  have zs := Lib.hid (pt_store A1 HF1.out (Nat.le_succ _) (.int .i64 0) (.int .i64 0) (.int .i64 0))
  clear A1 hf1 HA HF
  go_wp2_with fail
  refine bodyPost_ret (v := .tuple #[.agg #[.int .i64 0, .int .i64 0, .int .i64 0], .int .i64 30]) (vput_results _ _ _ 23 _ _ _ _ rfl rfl zs.out.1) rfl ?_
  exact ⟨rfl, zs.out.2⟩
set_option maxRecDepth 20000 in
set_option maxHeartbeats 6400000 in
theorem vput_yes (h : Ld L w g d F m v zs) (hw : WF m) (hd : m.done < 1000000) (hn : zs.length ≤ 1000000) (ht : Tab w) (x : Ky) (s : ByteArray) (hx : x.rt) (hs : s.size ≤ 100000) :
    Calls Tryd.prog 20 #[.pointer (some ⟨g, 0, none⟩), kyV x, .string s] w (PutPost L g d v zs (putT m zs (recB x s)) (appDv m zs (recB x s)) w) := by
  have CB : Hid (∀ w, Calls Tryd.prog 42 #[.agg #[.string x.u, .int .i64 x.q, .int .i64 x.k]] w (BytesRetK x.b w)) := Lib.hid (fun w => bytes_yes x.u x.q x.k w hx)
  have hbl := kyb_len hx
  have hrl := recB_len hx (v := s) (by omega)
  have CR := Lib.hid (fun (a : Option Addr) (n cap : Nat) (w : World) (h : x.b.length = n) (hr : Rd w a x.b) => recordOf_c a n cap x.b s w h (by omega) (by omega) hr)
  have HREC : Hid (textB x.b ++ textB (bs s) = recB x s) := Lib.hid rfl
  rw [HREC.out] at CR
  have HP : Hid (putT m zs (recB x s) = if (appT m zs (recB x s)).2.2 = 0 then ((appT m zs (recB x s)).1, (appT m zs (recB x s)).2.1, ((recB x s).length : Int), 0) else (0, 0, 0, (appT m zs (recB x s)).2.2)) := Lib.hid rfl
  obtain ⟨W0, hW0⟩ : ∃ W, (w.alloc (.cells #[.string x.u, .int .i64 x.q, .int .i64 x.k] 43)).alloc (.cells #[.int .i64 0, .int .i64 0, .int .i64 0] 23) = W := ⟨_, rfl⟩
  have f0 : Fr No w W0 := by rw [← hW0]; exact ((Fr.refl No w).alloc _).alloc _
  have A0 : At W0 (w.heap.size + 1) 23 #[.int .i64 0, .int .i64 0, .int .i64 0] := by
    have h := At.new (w.alloc (.cells #[.string x.u, .int .i64 x.q, .int .i64 x.k] 43)) 23 #[.int .i64 0, .int .i64 0, .int .i64 0]
    rw [World.size_alloc] at h
    rw [← hW0]
    exact h
  have k0 : At W0 w.heap.size 43 #[.string x.u, .int .i64 x.q, .int .i64 x.k] := by rw [← hW0]; exact (At.new w _ _).keep ((Fr.refl No _).alloc _) (fun h => h)
  have q0 := k0.cell 0
  have q1 := k0.cell 1
  have q2 := k0.cell 2
  simp at q0 q1 q2
  have HA := Lib.hid A0
  have HF := Lib.hid f0
  have HLD := Lib.hid h
  have HNL : Hid (¬ L (w.heap.size + 1)) := Lib.hid fun hl => by have := h.low _ hl; omega
  have CA := Lib.hid (fun (wA : World) (f : Fr No w wA) (a : Option Addr) (n cap : Nat) (hl : (recB x s).length = n) (hr : Rd wA a (recB x s)) => lappend_c (h.keep f (fun _ _ h => h)) hw hd hn a n cap (recB x s) hl (by omega) hr (ht.keep f (fun h => h)))
  obtain ⟨rn, hrn⟩ : ∃ n, (recB x s).length = n := ⟨_, rfl⟩
  obtain ⟨kn, hkn⟩ : ∃ n, x.b.length = n := ⟨_, rfl⟩
  obtain ⟨⟨r1, r2, r3⟩, hR⟩ : ∃ r, appT m zs (recB x s) = r := ⟨_, rfl⟩
  obtain ⟨M, hM⟩ : ∃ M, appDv m zs (recB x s) = M := ⟨_, rfl⟩
  rw [hR, hM] at CA
  rw [hR, hrn] at HP
  rw [hM]
  generalize recB x s = Rc at *
  generalize putT m zs Rc = PT at *
  have HRN := Lib.hid hrn
  have HKN := Lib.hid hkn
  rw [hrn] at hrl
  rw [hkn] at hbl
  unfold kyV
  clear A0 k0 f0 hx h hw hd hn ht hrn hkn hR hM HREC
  go_enter Tryd.func20, Tryd.ntmps20
  go_wp2_with fail
  refine (CB.out _).mono ?_
  rintro e w1 ⟨ka, kc, rfl, krow, hf1⟩
  obtain ⟨_, _, e9, _, _, kin⟩ := krow.form
  obtain ⟨rfl, _, rfl⟩ := Value.slice.inj e9
  rw [HKN.out]
  have CR1 := Lib.hid (CR.out ka kn kc w1 HKN.out kin.rd)
  have HF1 := Lib.hid (HF.out.trans hf1)
  have HA1 := Lib.hid (HA.out.keep hf1 (fun h => h))
  clear krow e9 kin hf1 HA HF CR CB
  go_wp2_with fail
  refine (show Calls _ _ _ _ _ from CR1.out).mono ?_
  rintro e w2 ⟨ra, rc, rfl, rr1, rr2, rrow, hf2⟩
  obtain ⟨_, _, e9, _, _, rin⟩ := rrow.form
  obtain ⟨rfl, _, rfl⟩ := Value.slice.inj e9
  rw [HRN.out]
  have HF2 := Lib.hid (HF1.out.trans hf2)
  have CA2 := Lib.hid (CA.out w2 HF2.out ra rn rc HRN.out rin.rd)
  have HA2 := Lib.hid (HA1.out.keep hf2 (fun h => h))
  rw [HRN.out] at rr1
  clear e9 rin hf2 HA1 HF1 CR1 CA rrow
  go_wp2_with fail
  refine (show Calls _ _ _ _ _ from CA2.out).mono ?_
  rintro e w3 ⟨rfl, ⟨F', hl3⟩, hf3⟩
  have A3 := HA2.out.keep hf3 HNL.out
  have c0 := A3.cell 0
  have c1 := A3.cell 1
  have c2 := A3.cell 2
  have g0 := A3.frozen 0
  have g1 := A3.frozen 1
  have g2 := A3.frozen 2
  simp at c0 c1 c2
  have HS2 := Lib.hid HF2.out.size
  have hlt := HA2.out.lt
  have HF3 := Lib.hid ((HF2.out.sub (T := L) fun _ _ h => h.elim).trans hf3)
  have HL3 := Lib.hid (hl3.sub (L' := Gr L w w3) (fun k hk => hk.elim .inl fun hk => .inr ⟨Nat.le_trans HS2.out hk.1, hk.2⟩) (fun k hk => hk.elim (fun hk => hl3.low k (.inl hk)) fun hk => hk.2))
  have HNL3 : Hid (¬ Gr L w2 w3 (w.heap.size + 1)) := Lib.hid fun hk => hk.elim HNL.out fun hk => by omega
  have HOUT : Hid (∀ y1 y2 y3 : Value, Ld (Gr L w (((w3.setCell ⟨w.heap.size + 1, 0, none⟩ y1).setCell ⟨w.heap.size + 1, 1, none⟩ y2).setCell ⟨w.heap.size + 1, 2, none⟩ y3)) (((w3.setCell ⟨w.heap.size + 1, 0, none⟩ y1).setCell ⟨w.heap.size + 1, 1, none⟩ y2).setCell ⟨w.heap.size + 1, 2, none⟩ y3) g d F' M v zs ∧
      At (((w3.setCell ⟨w.heap.size + 1, 0, none⟩ y1).setCell ⟨w.heap.size + 1, 1, none⟩ y2).setCell ⟨w.heap.size + 1, 2, none⟩ y3) (w.heap.size + 1) 23 #[y1, y2, y3] ∧ Fr L w (((w3.setCell ⟨w.heap.size + 1, 0, none⟩ y1).setCell ⟨w.heap.size + 1, 1, none⟩ y2).setCell ⟨w.heap.size + 1, 2, none⟩ y3)) := Lib.hid fun y1 y2 y3 => by
    have hz := pt_store A3 HF3.out (Nat.le_succ _) y1 y2 y3
    refine ⟨(hl3.three HNL3.out y1 y2 y3).sub (fun k hk => hk.elim .inl fun hk => .inr ⟨Nat.le_trans HS2.out hk.1, by rw [size_three]; exact hk.2⟩) (fun k hk => hk.elim (fun hk => ?_) fun hk => hk.2), hz.1, hz.2⟩
    rw [size_three]
    exact hl3.low k (.inl hk)
  clear hl3 hf3 A3 CA2 HL3 HA2
  by_cases h3 : r3 = 0
  · subst h3
    have HP2 : Hid (PT = (r1, r2, (rn : Int), 0)) := Lib.hid (HP.out.trans (if_pos rfl))
    have HO := Lib.hid (HOUT.out (.int .i64 r1) (.int .i64 r2) (.int .i64 (rn : Int)))
    clear HP HOUT
    go_wp2_with fail
    refine bodyPost_ret (v := .tuple #[.agg #[.int .i64 r1, .int .i64 r2, .int .i64 (rn : Int)], .int .i64 0]) (vput_results _ _ _ 23 _ _ _ _ rfl rfl HO.out.2.1) rfl ?_
    rw [HP2.out]
    exact ⟨rfl, ⟨_, HO.out.1⟩, HO.out.2.2⟩
  · have e1 : (r3 != 0) = true := by rw [bne_iff_ne]; exact h3
    have HP2 : Hid (PT = (0, 0, 0, r3)) := Lib.hid (HP.out.trans (if_neg h3))
    have HO := Lib.hid (HOUT.out (.int .i64 0) (.int .i64 0) (.int .i64 0))
    clear HP HOUT h3
    go_wp2_with fail
    refine bodyPost_ret (v := .tuple #[.agg #[.int .i64 0, .int .i64 0, .int .i64 0], .int .i64 r3]) (vput_results _ _ _ 23 _ _ _ _ rfl rfl HO.out.2.1) rfl ?_
    rw [HP2.out]
    exact ⟨rfl, ⟨_, HO.out.1⟩, HO.out.2.2⟩
end
end Go.Proofs.YtihahckjcedceaaDoor
