/-
  The walks of the statements on bytes that differ in one place, and on three lists put together.
-/
import Derived.Test.YtefkbedpnojibaaDoorSumC
import Derived.WalkLawsBesides
namespace Go.Proofs.YtefkbedpnojibaaDoor
set_option linter.unusedVariables false
open Go.RowKit

/-- A block of the call's own that begins with the bytes l. -/
structure Mine (w : World) (g : Nat) (l : List UInt8) : Prop where
  lt : g < w.heap.size
  cell : ∀ i, i < l.length → w.cell? ⟨g, i, none⟩ = some (.int .u8 ((l.getD i 0).toNat : Int))
  free : ∀ i, w.frozen? ⟨g, i, none⟩ = false
section
variable {w : World} {g : Nat} {l : List UInt8}
theorem Mine.rd (h : Mine w g l) : Rd w (some ⟨g, 0, none⟩) l := fun _ => ⟨g, 0, rfl, fun i hi => by rw [Nat.zero_add]; exact h.cell i hi⟩
theorem Mine.drew (h : Mine w g l) : Mine w.drew g l := ⟨h.lt, h.cell, h.free⟩
theorem Mine.set (h : Mine w g l) (k : Nat) (x : UInt8) (hk : k < l.length) : Mine (w.setCell ⟨g, k, none⟩ (.int .u8 (x.toNat : Int))) g (l.set k x) := by
  refine ⟨by have := h.lt; simpa [World.setCell] using this, fun i hi => ?_, fun i => (World.frozen?_setCell _ _ _ _).trans (h.free i)⟩
  have hi : i < l.length := by simpa using hi
  by_cases e : i = k
  · subst e
    rw [World.cell?_setCell_same w _ _ (h.cell i hk)]
    rw [List.getD, List.getElem?_set_self hk]
    rfl
  · rw [World.cell?_setCell_other w _ _ _ (by intro c; injection c with c1 c2; exact e (by omega)), h.cell i hi]
    have e' : k ≠ i := fun c => e c.symm
    simp [List.getD, e']
theorem Mine.of_own {B : Nat} {e : TypeId} {n cap : Nat} (h : w.ownsRow B e 1 (.slice (some ⟨g, 0, none⟩) n cap) n (l.map fun x => Value.int .u8 (x.toNat : Int))) (hl : l.length = n) : Mine w g l := by
  refine ⟨(h.lt g (by simp [Value.ownBlock])).2, fun i hi => ?_, fun i => h.frozenAt i⟩
  rw [h.cellAt i (by omega)]
  simp [List.getD, hi]
end
theorem xor_u8 (x y : UInt8) : bits .xor .u8 (x.toNat : Int) (y.toNat : Int) = ((x ^^^ y).toNat : Int) := by
  have h1 := x.toNat_lt
  have h2 := y.toNat_lt
  rw [u8_xor_nat _ _ (by omega) (by omega), UInt8.toNat_xor]
theorem infoU8 : (Tryd.prog.info? 5).map (fun i => (i.zero, i.size, i.bytes)) = some (some (.int .u8 0), 1, 1) := by kernel_rfl

set_option maxHeartbeats 400000 in
/-- A copy of bytes that are not none. -/
theorem copy_c (a : Option Addr) (len cap : Nat) (l : List UInt8) (w : World) (hl : l.length = len) (h0 : 0 < len) (hm : len ≤ 5000) (hr : Rd w a l) :
    Calls Tryd.prog 20 #[.slice a len cap] w fun e w' => ∃ g c, e = .returned (.slice (some ⟨g, 0, none⟩) len c) ∧ len ≤ c ∧ Mine w' g l ∧ w.heap.size ≤ g ∧ Below w.heap.size w w' := by
  obtain ⟨b, o, rfl, hc⟩ := hr (by omega)
  obtain ⟨i0, hi, hz0, hz1, hz2⟩ := info_parts infoU8
  obtain ⟨v', w', hrun, hown, hg, _⟩ := run_append_own (P := Tryd.prog) w w.heap.size 22 22 5 i0 (.int .u8 0) 1 1 Tryd.underlying22 hi hz0 hz1 hz2 rfl (by decide) (.slice none 0 0) 0 [] (World.ownsRow_nil w _ _ _)
    ⟨b, o, none⟩ len cap (l.map fun x => Value.int .u8 (x.toNat : Int)) (by simp [hl]) (fun j u hj => by
      have hj' : j < l.length := by
        rcases Nat.lt_or_ge j l.length with h | h
        · exact h
        · simp [List.getElem?_eq_none h] at hj
      have e : (⟨b, o, none⟩ : Addr).add j = ⟨b, o + j, none⟩ := by unfold Addr.add; split <;> simp_all
      rw [e, hc j hj']
      simp [List.getD, hj'] at hj ⊢
      exact hj)
    (by intro u hu; simp at hu; obtain ⟨x, _, rfl⟩ := hu; rfl) (by unfold maxLen; omega) (by omega) (Nat.le_refl _)
  have hb : Below w.heap.size w w' := (Below.refl _ _).grown hg (Nat.le_refl _) (fun k hk => by simp [Value.ownBlock] at hk)
  simp only [Nat.zero_add, List.nil_append] at hown
  have hv : ∃ g c, v' = .slice (some ⟨g, 0, none⟩) len c ∧ len ≤ c ∧ w.heap.size ≤ g := by
    rcases hown.2 with ⟨_, h⟩ | ⟨g, c, _, h1, h2, _, h3, _⟩
    · omega
    · exact ⟨g, c, h1, h3, h2⟩
  obtain ⟨g, c, rfl, hc1, hc2⟩ := hv
  have HM := Lib.hid (Mine.of_own hown hl)
  have HRUN := Lib.hid hrun
  clear hown hg hc hr hl hrun
  go_enter Tryd.func20, Tryd.ntmps20
  go_wp2_with (at_builtin; refine wpList_append_run rfl _ _ 22 rfl rfl rfl HRUN.out ?_)
  go_ret
  exact ⟨g, c, rfl, hc1, HM.out, hc2, hb⟩

theorem set_parts (l : List UInt8) (k : Nat) (x : UInt8) (hk : k < l.length) : l = l.take k ++ l.getD k 0 :: l.drop (k + 1) ∧ l.set k x = l.take k ++ x :: l.drop (k + 1) := by
  refine ⟨?_, by rw [List.set_eq_take_append_cons_drop, if_pos hk]⟩
  have e : l.getD k 0 = l[k] := by simp [hk]
  rw [e, List.getElem_cons_drop, List.take_append_drop]
theorem tells_ne (l : List UInt8) (k : Nat) (y : UInt8) (hk : k < l.length) (hy : y ≠ 0) : Crc.of l ≠ Crc.of (l.set k (l.getD k 0 ^^^ y)) := by
  obtain ⟨e1, e2⟩ := set_parts l k (l.getD k 0 ^^^ y) hk
  rw [e2]
  conv => lhs; rw [e1]
  refine Crc.of_tells _ _ _ _ fun h => hy ?_
  have h' : l.getD k 0 ^^^ 0 = l.getD k 0 ^^^ y := by rw [UInt8.xor_zero]; exact h
  exact ((UInt8.xor_right_inj _).mp h').symm

set_option maxHeartbeats 400000 in
theorem sumTells_walk (w : World) (ht : Tab w) (a : Option Addr) (len cap : Nat) (l : List UInt8) (hl : l.length = len) (hc : len ≤ cap) (_hm : cap ≤ maxLen) (hr : Rd w a l) (x : Int) (wx : (Lit.int .i64 x).wf = true) (z : Int) (wz : (Lit.int .u8 z).wf = true) :
    Calls Tryd.prog 7 #[.slice a len cap, .int .i64 x, .int .u8 z] w fun e w' => e = .returned (.bool true) ∧ Below w.heap.size w w' := by
  have A := Lib.hid fun (w : World) (ht : Tab w) => awake_c w ht
  have hx := bounds_i64 wx
  have hz := bounds_u8 wz
  have HT := Lib.hid ht
  have HR := Lib.hid hr
  have HL := Lib.hid hl
  clear wx wz ht hr hl
  by_cases h1 : 5000 < len
  · go_enter Tryd.func7, Tryd.ntmps7
    go_wp2_with fail
    refine (A.out _ HT.out).mono ?_
    rintro e w' ⟨rfl, hb⟩
    go_wp2_with fail
    go_ret
    exact ⟨rfl, hb⟩
  by_cases h2 : x < 0
  · go_enter Tryd.func7, Tryd.ntmps7
    go_wp2_with fail
    refine (A.out _ HT.out).mono ?_
    rintro e w' ⟨rfl, hb⟩
    go_wp2_with fail
    go_ret
    exact ⟨rfl, hb⟩
  by_cases h3 : (len : Int) ≤ x
  · go_enter Tryd.func7, Tryd.ntmps7
    go_wp2_with fail
    refine (A.out _ HT.out).mono ?_
    rintro e w' ⟨rfl, hb⟩
    go_wp2_with fail
    go_ret
    exact ⟨rfl, hb⟩
  by_cases h4 : z = 0
  · subst h4
    go_enter Tryd.func7, Tryd.ntmps7
    go_wp2_with fail
    refine (A.out _ HT.out).mono ?_
    rintro e w' ⟨rfl, hb⟩
    go_wp2_with fail
    go_ret
    exact ⟨rfl, hb⟩
  obtain ⟨k, rfl⟩ := Int.eq_ofNat_of_zero_le (show 0 ≤ x by omega)
  have g1 : len ≤ 5000 := by omega
  have g2 : k < len := by omega
  obtain ⟨y, rfl⟩ : ∃ y : UInt8, z = (y.toNat : Int) := ⟨byteOf z, by
    unfold byteOf
    rw [UInt8.toNat_ofNat']
    omega⟩
  have hy : y ≠ 0 := fun h => h4 (by rw [h]; rfl)
  have hyb := y.toNat_lt
  have hy0 : ((y.toNat : Int) == 0) = false := by simpa using h4
  have NE := Lib.hid (tells_ne l k y (by have := HL.out; omega) hy)
  have C1 := Lib.hid (copy_c a len cap l w HL.out (by omega) g1 HR.out)
  clear h1 h2 h3 h4 hx hz hy
  go_enter Tryd.func7, Tryd.ntmps7
  go_wp2_with fail
  refine (show Calls _ _ _ _ _ from C1.out).mono ?_
  rintro e w1 ⟨g, c, rfl, hgc, hM, hgB, hB1⟩
  have c1 := hM.cell k (by have := HL.out; omega)
  have f1 := hM.free k
  have HM := Lib.hid hM
  have HB1 := Lib.hid hB1
  have HgB := Lib.hid hgB
  generalize hv : l.getD k 0 = v at c1
  have HV := Lib.hid hv
  have hvb := v.toNat_lt
  have ex := xor_u8 v y
  clear hM hB1 hv C1
  generalize hu : v ^^^ y = u at ex
  have HU := Lib.hid hu
  clear hu
  go_wp2_with fail
  clear c1 f1 ex
  have HS := Lib.hid (HM.out.set k u (by have := HL.out; omega))
  have HB2 := Lib.hid ((HB1.out.setCell (p := ⟨g, k, none⟩) HgB.out (.int .u8 (u.toNat : Int))))
  generalize w1.setCell ⟨g, k, none⟩ (.int .u8 (u.toNat : Int)) = W at HS HB2
  have HRW := Lib.hid (HR.out.below HB2.out (Nat.le_refl _))
  have HTW := Lib.hid (HT.out.below HB2.out (Nat.le_refl _))
  refine (of_c a len cap l W HL.out (by omega) HRW.out HTW.out).mono ?_
  rintro e w' ⟨rfl, rfl⟩
  generalize hs : Crc.of l = s
  go_wp2_with fail
  refine (of_c _ len c (l.set k u) W (by simpa using HL.out) (by omega) HS.out.rd HTW.out).mono ?_
  rintro e w' ⟨rfl, rfl⟩
  have ne : (((s.toNat : Int) == ((Crc.of (l.set k u)).toNat : Int))) = false := by
    rw [beq_eq_false_iff_ne]
    intro h
    have h1 : s.toNat = (Crc.of (l.set k u)).toNat := by omega
    have h2 := BitVec.eq_of_toNat_eq h1
    rw [← hs, ← HU.out, ← HV.out] at h2
    exact NE.out h2
  have ne' : (((s.toNat : Int) != ((Crc.of (l.set k u)).toNat : Int))) = true := by
    rw [bne, ne]
    rfl
  generalize Crc.of (l.set k u) = t at ne ne'
  clear hs
  go_wp2_with fail
  refine (A.out _ HTW.out).mono ?_
  rintro e w' ⟨rfl, hb⟩
  go_wp2_with fail
  go_ret
  exact ⟨rfl, HB2.out.trans (hb.mono HB2.out.size)⟩

set_option maxHeartbeats 1000000 in
theorem sumJoins_walk (w : World) (ht : Tab w) (a : Option Addr) (la ca : Nat) (A : List UInt8) (hla : A.length = la) (hca : la ≤ ca) (hma : ca ≤ maxLen) (ra : Rd w a A)
    (b : Option Addr) (lb cb : Nat) (B : List UInt8) (hlb : B.length = lb) (hcb : lb ≤ cb) (hmb : cb ≤ maxLen) (rb : Rd w b B)
    (c : Option Addr) (lc cc : Nat) (C : List UInt8) (hlc : C.length = lc) (hcc : lc ≤ cc) (hmc : cc ≤ maxLen) (rc : Rd w c C) :
    Calls Tryd.prog 8 #[.slice a la ca, .slice b lb cb, .slice c lc cc] w fun e w' => e = .returned (.bool true) ∧ Below w.heap.size w w' := by
  unfold maxLen at hma hmb hmc
  obtain ⟨m, hm⟩ : ∃ m, m = min la lb := ⟨_, rfl⟩
  obtain ⟨n, hn⟩ : ∃ n, n = min m lc := ⟨_, rfl⟩
  have e1 : (if lb < la then (lb : Int) else (la : Int)) = (m : Int) := by split <;> omega
  have e2 : (if (lc : Int) < (m : Int) then (lc : Int) else (m : Int)) = (n : Int) := by split <;> omega
  have e3 : (if lc < m then (lc : Int) else (m : Int)) = (n : Int) := by split <;> omega
  have b1 : n ≤ la := by omega
  have b2 : n ≤ lb := by omega
  have b3 : n ≤ lc := by omega
  have HT := Lib.hid ht
  have RA := Lib.hid ra
  have RB := Lib.hid rb
  have RC := Lib.hid rc
  have HSUM := Lib.hid (Crc.of_joinTo A B C n (by omega) (by omega) (by omega))
  have LA : Hid (n ≤ A.length ∧ n ≤ B.length ∧ n ≤ C.length) := Lib.hid ⟨by omega, by omega, by omega⟩
  clear hm hn hla hlb hlc ht ra rb rc
  by_cases h3 : 3000 < n
  · go_enter Tryd.func8, Tryd.ntmps8
    go_wp2_with fail
    refine (awake_c w HT.out).mono ?_
    rintro e w' ⟨rfl, hb⟩
    go_wp2_with fail
    go_ret
    exact ⟨rfl, hb⟩
  · have n3 : n ≤ 3000 := by omega
    obtain ⟨i0, hi, hz0, hz1, hz2⟩ := info_parts infoU8
    obtain ⟨w1, hmk, hown, hg⟩ := run_make_full (P := Tryd.prog) w w.heap.size 22 5 i0 (.int .u8 0) 1 Tryd.underlying22 hi hz0 hz1 .i64 .i64 n (by rw [hz2]; omega) (by unfold maxLen; omega) (Nat.le_refl _)
    have hz : (madeCells (Value.int .u8 0).cells (n * 1)).toList = (Crc.joinTo A B C n 0).map fun x => Value.int .u8 (x.toNat : Int) := by
      have := toList_madeCells_one (.int .u8 0) n
      simpa [Crc.joinTo, Value.cells] using this
    rw [hz] at hown
    have HM := Lib.hid (Mine.of_own hown (Crc.joinTo_length _ _ _ _ _))
    have hb1 : Below w.heap.size w w1 := (Below.refl _ _).grown hg (Nat.le_refl _) (fun k hk => by cases hk)
    have HB1 := Lib.hid hb1
    clear hz hown hg hb1 hi hz0 hz1 hz2
    obtain ⟨g, hge⟩ : ∃ g, g = w.heap.size := ⟨_, rfl⟩
    rw [← hge] at hmk HM
    have HG := Lib.hid hge
    clear hge
    go_enter Tryd.func8, Tryd.ntmps8
    go_wp2_with fail
    clear hmk
    go_loopw [24] (fun i wr => ∃ k : Nat, k ≤ n ∧ i = .int .i64 k ∧ Mine wr g (Crc.joinTo A B C n k) ∧ Below w.heap.size w wr) (fun i _ => n - (intOf i).toNat)
    case atStart => exact ⟨0, Nat.zero_le _, rfl, HM.out, HB1.out⟩
    case round =>
      obtain ⟨k, hk, rfl, hM, hB⟩ := hrel
      have M := Lib.hid hM
      have BB := Lib.hid hB
      clear hM hB HM HB1
      by_cases hlt : k < n
      · obtain ⟨ba, oa, rfl, cellA⟩ := RA.out.below BB.out (Nat.le_refl _) (by have := LA.out; omega)
        obtain ⟨bb, ob, rfl, cellB⟩ := RB.out.below BB.out (Nat.le_refl _) (by have := LA.out; omega)
        obtain ⟨bc, oc, rfl, cellC⟩ := RC.out.below BB.out (Nat.le_refl _) (by have := LA.out; omega)
        have c1 := cellA k (by have := LA.out; omega)
        have c2 := cellB k (by have := LA.out; omega)
        have c3 := cellC k (by have := LA.out; omega)
        have c4 := M.out.cell k (by rw [Crc.joinTo_length]; exact hlt)
        have f4 := M.out.free k
        clear cellA cellB cellC
        have HS := Lib.hid (M.out.drew.set k (A.getD k 0 ^^^ B.getD k 0 ^^^ C.getD k 0) (by rw [Crc.joinTo_length]; exact hlt))
        generalize hv : ((Crc.joinTo A B C n k).getD k 0) = v4 at c4
        clear hv
        have ex1 := xor_u8 (A.getD k 0) (B.getD k 0)
        have ex2 := xor_u8 (A.getD k 0 ^^^ B.getD k 0) (C.getD k 0)
        generalize hu : A.getD k 0 ^^^ B.getD k 0 ^^^ C.getD k 0 = u at ex2 HS
        generalize hu2 : A.getD k 0 ^^^ B.getD k 0 = u2 at ex1 ex2
        have HU := Lib.hid hu
        clear hu hu2
        generalize hx : A.getD k 0 = x at c1 ex1
        generalize hy : B.getD k 0 = y at c2 ex1
        generalize hz : C.getD k 0 = z at c3 ex2
        have HX := Lib.hid (show _ ∧ _ ∧ _ from ⟨hx, hy, hz⟩)
        clear hx hy hz
        have k1 : k < la := by omega
        have k2 : k < lb := by omega
        have k3 : k < lc := by omega
        go_wp2_with fail
        go_still_tail 17, (by kernel_rfl)
        change wpList _ _ _ _ _ wr.drew
        have c4' : wr.drew.cell? ⟨g, k, none⟩ = some (.int .u8 (v4.toNat : Int)) := c4
        have f4' : wr.drew.frozen? ⟨g, k, none⟩ = false := f4
        have HB3 := Lib.hid ((BB.out.drew).setCell (p := ⟨g, k, none⟩) (by rw [HG.out]; exact Nat.le_refl _) (.int .u8 (u.toNat : Int)))
        generalize wr.drew = wd at c4' f4' HS HB3
        clear c1 c2 c3 c4 f4 ex1 ex2
        go_wp2_with fail
        go_roundw
        case rel =>
          refine ⟨k + 1, by omega, by go_num, ?_, HB3.out⟩
          have e : Crc.joinTo A B C n (k + 1) = (Crc.joinTo A B C n k).set k u := by
            rw [← HU.out]
            simp only [Crc.joinTo]
          rw [e]
          exact HS.out
        case measure => simp [intOf]; omega
      · have hk' : k = n := by omega
        subst hk'
        have HTW := Lib.hid (HT.out.below BB.out (Nat.le_refl _))
        have htd : Tab wr.drew := HTW.out
        have D0 := Lib.hid (still_of (of_c _ k k _ wr.drew (Crc.joinTo_length A B C k k) (by omega) M.out.drew.rd htd))
        have rdA : Rd wr.drew a A := RA.out.below BB.out.drew (Nat.le_refl _)
        have rdB : Rd wr.drew b B := RB.out.below BB.out.drew (Nat.le_refl _)
        have rdC : Rd wr.drew c C := RC.out.below BB.out.drew (Nat.le_refl _)
        have D1 := Lib.hid (still_of (of_c a k ca (A.take k) wr.drew (by have := LA.out; simp; omega) (by omega) (rdA.take k) htd))
        have D2 := Lib.hid (still_of (of_c b k cb (B.take k) wr.drew (by have := LA.out; simp; omega) (by omega) (rdB.take k) htd))
        have D3 := Lib.hid (still_of (of_c c k cc (C.take k) wr.drew (by have := LA.out; simp; omega) (by omega) (rdC.take k) htd))
        have ex1 := xor_bv (Crc.of (A.take k)) (Crc.of (B.take k))
        have ex2 := xor_bv (Crc.of (A.take k) ^^^ Crc.of (B.take k)) (Crc.of (C.take k))
        rw [← HSUM.out] at ex2
        generalize Crc.of (A.take k) ^^^ Crc.of (B.take k) = t12 at ex1 ex2
        generalize Crc.of (A.take k) = t1 at D1 ex1
        generalize Crc.of (B.take k) = t2 at D2 ex1
        generalize Crc.of (C.take k) = t3 at D3 ex2
        generalize Crc.of (Crc.joinTo A B C k k) = t0 at D0 ex2
        have S1 := cut_hi (P := Tryd.prog) Tryd.underlying22 sizeU8 a la ca k (by omega)
        have S2 := cut_hi (P := Tryd.prog) Tryd.underlying22 sizeU8 b lb cb k (by omega)
        have S3 := cut_hi (P := Tryd.prog) Tryd.underlying22 sizeU8 c lc cc k (by omega)
        clear htd rdA rdB rdC
        go_wp2_with fail
        go_still_tail 18, (by kernel_rfl)
        still_call D0.out
        repeat still_step
        still_call D1.out
        repeat still_step
        still_call D2.out
        repeat still_step
        still_call D3.out
        repeat still_step
        refine wpStill_nil ?_
        clear S1 S2 S3 ex1 ex2
        go_wp2_with fail
        refine (awake_c _ (show Tab wr.drew from HTW.out)).mono ?_
        rintro e w' ⟨rfl, hb⟩
        go_wp2_with fail
        go_ret
        exact ⟨rfl, BB.out.drew.trans (hb.mono BB.out.size)⟩
end Go.Proofs.YtefkbedpnojibaaDoor
