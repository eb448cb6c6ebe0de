/-
  Layer 6, the program's own: contracts of slices.Clone (of a run) and twoAsOne.
-/
import Derived.Test.YtkcgdmhggndhfaaMrC
namespace Go.Proofs.Ytkcgdmhggndhfaa
set_option linter.unusedVariables false
open Go.RowKit

set_option maxRecDepth 20000 in
set_option maxHeartbeats 1600000 in
theorem cloneRun_c (S : Nat → Prop) (a : Option Addr) (c : Nat) (l : List P2) (w : World) (hl : l.length ≤ 100000) (hr : InP w S a l) :
    Calls Try.prog 45 #[.slice a l.length c] w fun e w' => ∃ u, e = .returned u ∧ PairsV w.heap.size l u w' ∧ Fr No w w' := by
  cases a with
  | none =>
    have h0 : l = [] := by
      rcases Nat.eq_zero_or_pos l.length with h | h
      · exact List.eq_nil_of_length_eq_zero h
      · obtain ⟨_, _, _, e, _⟩ := hr h
        cases e
    subst h0
    have he : ∀ w : World, (binOp .eql 27 (.slice none 0 c) (.slice none 0 0)).run Try.prog w = .ok (.bool true) w := fun _ => rfl
    go_enter Try.func45, Try.ntmps45
    go_wp2_with fail
    go_ret
    exact ⟨_, rfl, ⟨none, 0, rfl, Nat.le_refl _, by simp [maxLen], InP.nil _ _ _⟩, Fr.refl _ _⟩
  | some ad =>
    have f0 := (Fr.refl No w).alloc (.cells #[] 49)
    obtain ⟨v1, w1, hrun, hrow, hfr⟩ := append_pairs (P := Try.prog) rowMI w _ _ [] l (some ad) c (RowG.empty w 49 2) f0 (hr.keep f0 (fun _ _ h => h)) (by simp; omega)
    have HRUN := Lib.hid hrun
    have HR := Lib.hid (hrow.pairsV (Nat.le_refl _))
    have HF := Lib.hid hfr
    clear hrun hrow hfr f0 hr
    generalize l.length = n at *
    have he : ∀ w : World, (binOp .eql 27 (.slice (some ad) n c) (.slice none 0 0)).run Try.prog w = .ok (.bool false) w := fun _ => rfl
    go_enter Try.func45, Try.ntmps45
    go_wp2_with (at_builtin; refine wpList_append_run rfl _ _ 27 rfl rfl rfl HRUN.out ?_)
    go_ret
    exact ⟨_, rfl, HR.out, HF.out⟩
def lenV : Value → Nat
  | .slice _ n _ => n
  | _ => 0
/-- Where the merging of two runs stands. -/
structure TwoSt (S1 S2 : Nat → Prop) (M : List P2) (N : Nat) (W0 wr : World) (v0 v1 v5 : Value) (l1 l2 o : List P2) : Prop where
  r1 : ∃ a c, v0 = .slice a l1.length c ∧ l1.length ≤ c ∧ c ≤ maxLen ∧ InP W0 S1 a l1
  r2 : ∃ a c, v1 = .slice a l2.length c ∧ l2.length ≤ c ∧ c ≤ maxLen ∧ InP W0 S2 a l2
  row : RowG wr (Gr No W0 wr) 49 2 v5 o.length (p2sC o)
  fr : Fr No W0 wr
  all : o ++ mg2 l1 l2 = M
  n : o.length + l1.length + l2.length ≤ N
set_option maxRecDepth 20000 in
set_option maxHeartbeats 3200000 in
theorem twoAsOne_c (S1 S2 : Nat → Prop) (a1 a2 : Option Addr) (c1 c2 : Nat) (l1 l2 : List P2) (w : World) (hl1 : l1.length ≤ 100000) (hl2 : l2.length ≤ 100000) (h1 : l1.length ≤ c1) (h2 : l2.length ≤ c2) (m1 : c1 ≤ maxLen) (m2 : c2 ≤ maxLen) (r1 : InP w S1 a1 l1) (r2 : InP w S2 a2 l2) :
    Calls Try.prog 46 #[.slice a1 l1.length c1, .slice a2 l2.length c2] w fun e w' => ∃ u, e = .returned u ∧ PairsV w.heap.size (mg2 l1 l2) u w' ∧ Fr No w w' := by
  obtain ⟨vm, wm, hmk, hrow, hfr⟩ := make_pairs w (l1.length + l2.length) (by omega)
  have H0 : Hid (TwoSt S1 S2 (mg2 l1 l2) (l1.length + l2.length) w wm (.slice a1 l1.length c1) (.slice a2 l2.length c2) vm l1 l2 []) := Lib.hid ⟨⟨a1, c1, rfl, h1, m1, r1⟩, ⟨a2, c2, rfl, h2, m2, r2⟩, hrow, hfr, rfl, by simp⟩
  clear hrow hfr r1 r2 h1 h2 m1 m2
  generalize mg2 l1 l2 = M at *
  obtain ⟨v0, hv0⟩ : ∃ v, Value.slice a1 l1.length c1 = v := ⟨_, rfl⟩
  obtain ⟨v1, hv1⟩ : ∃ v, Value.slice a2 l2.length c2 = v := ⟨_, rfl⟩
  obtain ⟨n1, hn1⟩ : ∃ v, l1.length = v := ⟨_, rfl⟩
  obtain ⟨n2, hn2⟩ : ∃ v, l2.length = v := ⟨_, rfl⟩
  rw [hn1] at hv0 hl1
  rw [hn2] at hv1 hl2
  rw [hn1, hn2] at H0 hmk
  rw [hn1, hn2]
  rw [show ((n1 + n2 : Nat) : Int) = (n1 : Int) + (n2 : Int) by omega] at hmk
  have HN1 := Lib.hid hn1
  have HN2 := Lib.hid hn2
  clear hn1 hn2 hv0 hv1
  go_enter Try.func46, Try.ntmps46
  go_wp2_with fail
  clear hmk
  go_loopw [0, 1, 5] (fun s0 s1 s5 wr => ∃ l1' l2' o, TwoSt S1 S2 M (n1 + n2) w wr s0 s1 s5 l1' l2' o) (fun s0 s1 _ _ => lenV s0 + lenV s1)
  case atStart => exact ⟨_, _, _, H0.out⟩
  case round =>
    clear H0
    obtain ⟨l1', l2', o, st⟩ := hrel
    have HST := Lib.hid st
    obtain ⟨⟨a1', c1', rfl, le1, cm1, in1⟩, ⟨a2', c2', rfl, le2, cm2, in2⟩, row, fr, hall, hn⟩ := st
    cases l1' with
    | nil =>
      have e1 : ([] : List P2).length = 0 := rfl
      rw [nil_mg2] at hall
      obtain ⟨v3, w3, hrun3, hrow3, hfr3⟩ := append_pairs (P := Try.prog) rowMI w _ _ o [] a1' c1' row fr (InP.nil wr S1 a1') (by simp; omega)
      obtain ⟨v4, w4, hrun4, hrow4, hfr4⟩ := append_pairs (P := Try.prog) rowMI w _ _ (o ++ []) l2' a2' c2' hrow3 hfr3 (in2.keep hfr3 (fun _ _ h => h)) (by simp; simp at hn; omega)
      rw [List.append_nil, hall] at hrow4
      have HR := Lib.hid (hrow4.pairsV (Nat.le_refl _))
      have HF := Lib.hid hfr4
      have HRUN3 := Lib.hid hrun3
      have HRUN4 := Lib.hid hrun4
      clear hrun3 hrow3 hfr3 hrun4 hrow4 hfr4 row fr in1 in2 hall HST hn
      rw [e1] at HRUN3 ⊢
      generalize l2'.length = m2 at *
      clear e1
      go_wp2_with (at_builtin; first | refine wpList_append_run rfl _ _ 27 rfl rfl rfl HRUN3.out ?_ | refine wpList_append_run rfl _ _ 27 rfl rfl rfl HRUN4.out ?_)
      go_ret
      exact ⟨_, rfl, HR.out, HF.out⟩
    | cons x xs =>
      cases l2' with
      | nil =>
        have e1 : ([] : List P2).length = 0 := rfl
        have e2 : (x :: xs).length = xs.length + 1 := rfl
        rw [mg2_nil] at hall
        obtain ⟨v3, w3, hrun3, hrow3, hfr3⟩ := append_pairs (P := Try.prog) rowMI w _ _ o (x :: xs) a1' c1' row fr (in1.keep fr (fun _ _ h => h)) (by simp; simp at hn; omega)
        obtain ⟨v4, w4, hrun4, hrow4, hfr4⟩ := append_pairs (P := Try.prog) rowMI w _ _ (o ++ (x :: xs)) [] a2' c2' hrow3 hfr3 (InP.nil w3 S1 a2') (by simp; simp at hn; omega)
        rw [List.append_nil, hall] at hrow4
        have HR := Lib.hid (hrow4.pairsV (Nat.le_refl _))
        have HF := Lib.hid hfr4
        have HRUN3 := Lib.hid hrun3
        have HRUN4 := Lib.hid hrun4
        clear hrun3 hrow3 hfr3 hrun4 hrow4 hfr4 row fr in1 in2 hall HST hn
        rw [e1] at HRUN4 ⊢
        rw [e2] at HRUN3 ⊢
        clear e1 e2
        obtain ⟨m1, hm1⟩ : ∃ m, xs.length = m := ⟨_, rfl⟩
        rw [hm1] at HRUN3 ⊢
        clear hm1
        have d1 : decide ((0 : Int) < (m1 : Int) + 1) = true := by rw [decide_eq_true_eq]; omega
        go_wp2_with (at_builtin; first | refine wpList_append_run rfl _ _ 27 rfl rfl rfl HRUN3.out ?_ | refine wpList_append_run rfl _ _ 27 rfl rfl rfl HRUN4.out ?_)
        go_ret
        exact ⟨_, rfl, HR.out, HF.out⟩
      | cons y ys =>
        obtain ⟨k1, u1⟩ := x
        obtain ⟨k2, u2⟩ := y
        have HIN1 := Lib.hid in1
        have HIN2 := Lib.hid in2
        have HROW := Lib.hid row
        have HFR := Lib.hid fr
        obtain ⟨b1, o1, _, rfl, hc1⟩ := in1 (by simp)
        obtain ⟨b2, o2, _, rfl, hc2⟩ := in2 (by simp)
        have hC : Hid (∀ W', Fr No w W' → (W'.cell? ⟨b1, o1, none⟩ = some (.int .i64 k1) ∧ W'.cell? ⟨b1, o1 + 1, none⟩ = some (.int .i64 u1)) ∧ W'.cell? ⟨b2, o2, none⟩ = some (.int .i64 k2) ∧ W'.cell? ⟨b2, o2 + 1, none⟩ = some (.int .i64 u2)) := Lib.hid fun W' f =>
          ⟨⟨f.cell (hc1 0 (by simp)).1 (fun h => h), f.cell (hc1 0 (by simp)).2 (fun h => h)⟩, f.cell (hc2 0 (by simp)).1 (fun h => h), f.cell (hc2 0 (by simp)).2 (fun h => h)⟩
        obtain ⟨⟨p0, p1⟩, p2, p3⟩ := hC.out wr fr
        obtain ⟨t1, ht1, it1⟩ := in1.tail (c := c1') (by simpa using le1)
        obtain ⟨t2, ht2, it2⟩ := in2.tail (c := c2') (by simpa using le2)
        have HT1 := Lib.hid it1
        have HT2 := Lib.hid it2
        have HALL := Lib.hid hall
        have e1 : ((k1, u1) :: xs).length = xs.length + 1 := rfl
        have e2 : ((k2, u2) :: ys).length = ys.length + 1 := rfl
        rw [e1] at hn le1 ⊢
        rw [e2] at hn le2 ⊢
        clear e1 e2 hc1 hc2 it1 it2 hall in1 in2 row fr
        unfold maxLen at cm1 cm2
        obtain ⟨m1, hm1⟩ : ∃ m, xs.length = m := ⟨_, rfl⟩
        obtain ⟨m2, hm2⟩ : ∃ m, ys.length = m := ⟨_, rfl⟩
        rw [hm1] at hn le1 ht1 ⊢
        rw [hm2] at hn le2 ht2 ⊢
        have HM1 := Lib.hid hm1
        have HM2 := Lib.hid hm2
        clear hm1 hm2
        have d1 : decide ((0 : Int) < (m1 : Int) + 1) = true := by rw [decide_eq_true_eq]; omega
        have d2 : decide ((0 : Int) < (m2 : Int) + 1) = true := by rw [decide_eq_true_eq]; omega
        have z1 : (0 : Int) < (m1 : Int) + 1 := by omega
        have z2 : (0 : Int) < (m2 : Int) + 1 := by omega
        rcases Int.lt_trichotomy k1 k2 with hk | hk | hk
        · have dc := cmpI_lt hk
          have HM := Lib.hid (mg2_lt (x := (k1, u1)) (y := (k2, u2)) (xs := xs) (ys := ys) hk)
          clear hk
          go_wp2_with fail
          go_quiet (exact compare_q _ _ _ _)
          rw [dc]
          clear p0 p1 p2 p3
          have fd := HFR.out.drewN nq
          have rd := (HROW.out.keep ((Fr.refl No wr).drewN nq) (fun _ _ h => h)).sub (T := Gr No w (wr.drewN nq)) (fun _ _ h => h)
          obtain ⟨wd, hwd⟩ : ∃ x, wr.drewN nq = x := ⟨_, rfl⟩
          rw [hwd] at fd rd
          rw [hwd]
          clear hwd
          obtain ⟨⟨p0, p1⟩, p2, p3⟩ := hC.out wd fd
          obtain ⟨v3, w3, hrun3, hrow3, hfr3⟩ := push_pair (P := Try.prog) rowMI w wd _ o k1 u1 rd fd (by omega)
          have HRUN3 := Lib.hid hrun3
          have HN : Hid (TwoSt S1 S2 M (n1 + n2) w w3 (.slice t1 m1 (c1' - 1)) (.slice (some ⟨b2, o2, none⟩) (m2 + 1) c2') v3 xs ((k2, u2) :: ys) (o ++ [(k1, u1)])) := Lib.hid
            ⟨⟨t1, c1' - 1, by rw [HM1.out], by rw [HM1.out]; omega, by unfold maxLen; omega, HT1.out⟩, ⟨_, c2', by rw [← HM2.out]; rfl, by show ys.length + 1 ≤ _; rw [HM2.out]; exact le2, by unfold maxLen; omega, HIN2.out⟩, hrow3, hfr3, by
              have := HALL.out
              rw [HM.out] at this
              rw [List.append_assoc]; exact this, by simp; rw [HM1.out, HM2.out]; omega⟩
          clear hrun3 hrow3 hfr3 fd rd
          go_wp2_with (at_builtin; refine wpList_append_run rfl _ _ 27 rfl rfl rfl HRUN3.out ?_)
          go_roundw
          case rel => exact ⟨_, _, _, HN.out⟩
          case measure => simp [lenV]
        · have dc : cmpI k1 k2 = 0 := by unfold cmpI; rw [if_neg (by omega), if_neg (by omega)]
          have HM := Lib.hid (mg2_eq (x := (k1, u1)) (y := (k2, u2)) (xs := xs) (ys := ys) hk)
          clear hk
          go_wp2_with fail
          go_quiet (exact compare_q _ _ _ _)
          rw [dc]
          clear p0 p1 p2 p3
          have fd := HFR.out.drewN nq
          have rd := (HROW.out.keep ((Fr.refl No wr).drewN nq) (fun _ _ h => h)).sub (T := Gr No w (wr.drewN nq)) (fun _ _ h => h)
          obtain ⟨wd, hwd⟩ : ∃ x, wr.drewN nq = x := ⟨_, rfl⟩
          rw [hwd] at fd rd
          rw [hwd]
          clear hwd
          obtain ⟨⟨p0, p1⟩, p2, p3⟩ := hC.out wd fd
          have HN := Lib.hid (show TwoSt S1 S2 M (n1 + n2) w wd (.slice (some ⟨b1, o1, none⟩) (m1 + 1) c1') (.slice t2 m2 (c2' - 1)) _ ((k1, u1) :: xs) ys o from
            ⟨⟨_, c1', by rw [← HM1.out]; rfl, by show xs.length + 1 ≤ _; rw [HM1.out]; exact le1, by unfold maxLen; omega, HIN1.out⟩, ⟨t2, c2' - 1, by rw [HM2.out], by rw [HM2.out]; omega, by unfold maxLen; omega, HT2.out⟩, rd, fd, by
              have := HALL.out
              rw [HM.out] at this
              exact this, by simp; rw [HM1.out, HM2.out]; omega⟩)
          clear fd rd
          go_wp2_with fail
          go_roundw
          case rel => exact ⟨_, _, _, HN.out⟩
          case measure => simp [lenV]
        · have dc : cmpI k1 k2 = 1 := by unfold cmpI; rw [if_neg (by omega), if_pos hk]
          have HM := Lib.hid (mg2_gt (x := (k1, u1)) (y := (k2, u2)) (xs := xs) (ys := ys) hk)
          clear hk
          go_wp2_with fail
          go_quiet (exact compare_q _ _ _ _)
          rw [dc]
          clear p0 p1 p2 p3
          have fd := HFR.out.drewN nq
          have rd := (HROW.out.keep ((Fr.refl No wr).drewN nq) (fun _ _ h => h)).sub (T := Gr No w (wr.drewN nq)) (fun _ _ h => h)
          obtain ⟨wd, hwd⟩ : ∃ x, wr.drewN nq = x := ⟨_, rfl⟩
          rw [hwd] at fd rd
          rw [hwd]
          clear hwd
          obtain ⟨⟨p0, p1⟩, p2, p3⟩ := hC.out wd fd
          obtain ⟨v3, w3, hrun3, hrow3, hfr3⟩ := push_pair (P := Try.prog) rowMI w wd _ o k2 u2 rd fd (by omega)
          have HRUN3 := Lib.hid hrun3
          have HN : Hid (TwoSt S1 S2 M (n1 + n2) w w3 (.slice (some ⟨b1, o1, none⟩) (m1 + 1) c1') (.slice t2 m2 (c2' - 1)) v3 ((k1, u1) :: xs) ys (o ++ [(k2, u2)])) := Lib.hid
            ⟨⟨_, c1', by rw [← HM1.out]; rfl, by show xs.length + 1 ≤ _; rw [HM1.out]; exact le1, by unfold maxLen; omega, HIN1.out⟩, ⟨t2, c2' - 1, by rw [HM2.out], by rw [HM2.out]; omega, by unfold maxLen; omega, HT2.out⟩, hrow3, hfr3, by
              have := HALL.out
              rw [HM.out] at this
              rw [List.append_assoc]; exact this, by simp; rw [HM1.out, HM2.out]; omega⟩
          clear hrun3 hrow3 hfr3 fd rd
          go_wp2_with (at_builtin; refine wpList_append_run rfl _ _ 27 rfl rfl rfl HRUN3.out ?_)
          go_roundw
          case rel => exact ⟨_, _, _, HN.out⟩
          case measure => simp [lenV]
end Go.Proofs.Ytkcgdmhggndhfaa
