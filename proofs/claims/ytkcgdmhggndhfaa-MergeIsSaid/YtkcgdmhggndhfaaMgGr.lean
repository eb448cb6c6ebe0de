/-
  Layer 6: the walk of MergeGroups, over the contract of Merge.
-/
import Derived.Test.YtkcgdmhggndhfaaMgIs
namespace Go.Proofs.Ytkcgdmhggndhfaa
set_option linter.unusedVariables false
open Go.RowKit

def All : Nat → Prop := fun _ => True
theorem InP.all {w : World} {S : Nat → Prop} {a : Option Addr} {l : List P2} (h : InP w S a l) : InP w All a l := h.sub fun _ _ _ => trivial
theorem InP.keepA {w w' : World} {a : Option Addr} {l : List P2} (h : InP w All a l) (f : Fr No w w') : InP w' All a l := h.keep f fun _ _ h => h
/-- Three slices laid side by side. -/
theorem inR3 (w : World) (e : TypeId) {a0 a1 a2 : Option Addr} {c0 c1 c2 : Nat} {l0 l1 l2 : List P2} (h0 : InP w All a0 l0) (h1 : InP w All a1 l1) (h2 : InP w All a2 l2) (k0 : l0.length ≤ c0) (k1 : l1.length ≤ c1) (k2 : l2.length ≤ c2) (m0 : c0 ≤ maxLen) (m1 : c1 ≤ maxLen) (m2 : c2 ≤ maxLen) :
    InR (w.alloc (.cells #[.slice a0 l0.length c0, .slice a1 l1.length c1, .slice a2 l2.length c2] e)) All (some ⟨w.heap.size, 0, none⟩) [⟨a0, c0, l0⟩, ⟨a1, c1, l1⟩, ⟨a2, c2, l2⟩] := fun _ => by
  have A := At.new w e #[.slice a0 l0.length c0, .slice a1 l1.length c1, .slice a2 l2.length c2]
  have f := (Fr.refl No w).alloc (.cells #[.slice a0 l0.length c0, .slice a1 l1.length c1, .slice a2 l2.length c2] e)
  refine ⟨w.heap.size, 0, trivial, rfl, fun i x hx => ?_⟩
  match i, hx with
  | 0, hx =>
    obtain rfl := Option.some.inj hx
    exact ⟨A.cell 0, k0, m0, h0.keepA f⟩
  | 1, hx =>
    obtain rfl := Option.some.inj hx
    exact ⟨A.cell 1, k1, m1, h1.keepA f⟩
  | 2, hx =>
    obtain rfl := Option.some.inj hx
    exact ⟨A.cell 2, k2, m2, h2.keepA f⟩
  | i + 3, hx => cases hx
theorem inR2 (w : World) (e : TypeId) {a0 a1 : Option Addr} {c0 c1 : Nat} {l0 l1 : List P2} (h0 : InP w All a0 l0) (h1 : InP w All a1 l1) (k0 : l0.length ≤ c0) (k1 : l1.length ≤ c1) (m0 : c0 ≤ maxLen) (m1 : c1 ≤ maxLen) :
    InR (w.alloc (.cells #[.slice a0 l0.length c0, .slice a1 l1.length c1] e)) All (some ⟨w.heap.size, 0, none⟩) [⟨a0, c0, l0⟩, ⟨a1, c1, l1⟩] := fun _ => by
  have A := At.new w e #[.slice a0 l0.length c0, .slice a1 l1.length c1]
  have f := (Fr.refl No w).alloc (.cells #[.slice a0 l0.length c0, .slice a1 l1.length c1] e)
  refine ⟨w.heap.size, 0, trivial, rfl, fun i x hx => ?_⟩
  match i, hx with
  | 0, hx =>
    obtain rfl := Option.some.inj hx
    exact ⟨A.cell 0, k0, m0, h0.keepA f⟩
  | 1, hx =>
    obtain rfl := Option.some.inj hx
    exact ⟨A.cell 1, k1, m1, h1.keepA f⟩
  | i + 2, hx => cases hx
/-- A slice of pairs at hand: where, its room, what it reads. -/
structure Sl where
  a : Option Addr
  c : Nat
  l : List P2
def SlAt (w : World) (s : Sl) : Prop := s.l.length ≤ s.c ∧ s.c ≤ maxLen ∧ InP w All s.a s.l
theorem SlAt.keep {w w' : World} {s : Sl} (h : SlAt w s) (f : Fr No w w') : SlAt w' s := ⟨h.1, h.2.1, h.2.2.keepA f⟩
theorem merge2_c (M : MergeOK) (w : World) (s t : Sl) (hs : SlAt w s) (ht : SlAt w t) (ss : SortP s.l) (st : SortP t.l) (ls : s.l.length ≤ 100) (lt : t.l.length ≤ 100) {n m : Nat} (hn : s.l.length = n) (hm : t.l.length = m) :
    Calls Try.prog 12 #[.slice (some ⟨w.heap.size, 0, none⟩) 2 2] (w.alloc (.cells #[.slice s.a n s.c, .slice t.a m t.c] 27)) fun e w' => ∃ u : Sl, e = .returned (.tuple #[.slice u.a u.l.length u.c, .int .i64 0]) ∧ SlAt w' u ∧ u.l = oneP [s.l, t.l] ∧ Fr No w w' := by
  subst hn hm
  have f := (Fr.refl No w).alloc (.cells #[.slice s.a s.l.length s.c, .slice t.a t.l.length t.c] 27)
  refine (M.merge All _ 2 _ _ (by simp) (by intro x hx; simp at hx; rcases hx with rfl | rfl; exact ls; exact lt) (by simp) (by unfold maxLen; omega) (inR2 w 27 hs.2.2 ht.2.2 hs.1 ht.1 hs.2.1 ht.2.1)).mono ?_
  rintro e w' ⟨b, c, l, rfl, h1, h2, h3, h4, h5⟩
  have e1 : runsR [(⟨s.a, s.c, s.l⟩ : Rn), ⟨t.a, t.c, t.l⟩] = true := by
    rw [runsR_lens]
    show ([s.l, t.l] : List (List P2)).all runP = true
    simp [runP_iff.2 ss, runP_iff.2 st]
  rw [e1] at h4
  refine ⟨⟨b, c, l⟩, by rw [e1]; rfl, ⟨h1, h2, h3.all⟩, h4, f.trans h5⟩
theorem merge3_c (M : MergeOK) (w : World) (s t r : Sl) (hs : SlAt w s) (ht : SlAt w t) (hr : SlAt w r) (ss : SortP s.l) (st : SortP t.l) (sr : SortP r.l) (ls : s.l.length ≤ 100) (lt : t.l.length ≤ 100) (lr : r.l.length ≤ 100) {n m p : Nat} (hn : s.l.length = n) (hm : t.l.length = m) (hp : r.l.length = p) :
    Calls Try.prog 12 #[.slice (some ⟨w.heap.size, 0, none⟩) 3 3] (w.alloc (.cells #[.slice s.a n s.c, .slice t.a m t.c, .slice r.a p r.c] 27)) fun e w' => ∃ u : Sl, e = .returned (.tuple #[.slice u.a u.l.length u.c, .int .i64 0]) ∧ SlAt w' u ∧ u.l = oneP [s.l, t.l, r.l] ∧ Fr No w w' := by
  subst hn hm hp
  have f := (Fr.refl No w).alloc (.cells #[.slice s.a s.l.length s.c, .slice t.a t.l.length t.c, .slice r.a r.l.length r.c] 27)
  refine (M.merge All _ 3 _ _ (by simp) (by intro x hx; simp at hx; rcases hx with rfl | rfl | rfl; exact ls; exact lt; exact lr) (by simp) (by unfold maxLen; omega) (inR3 w 27 hs.2.2 ht.2.2 hr.2.2 hs.1 ht.1 hr.1 hs.2.1 ht.2.1 hr.2.1)).mono ?_
  rintro e w' ⟨b, c, l, rfl, h1, h2, h3, h4, h5⟩
  have e1 : runsR [(⟨s.a, s.c, s.l⟩ : Rn), ⟨t.a, t.c, t.l⟩, ⟨r.a, r.c, r.l⟩] = true := by
    rw [runsR_lens]
    show ([s.l, t.l, r.l] : List (List P2)).all runP = true
    simp [runP_iff.2 ss, runP_iff.2 st, runP_iff.2 sr]
  rw [e1] at h4
  refine ⟨⟨b, c, l⟩, by rw [e1]; rfl, ⟨h1, h2, h3.all⟩, h4, f.trans h5⟩
theorem oneP2_le (x y : List P2) : (oneP [x, y]).length ≤ x.length + y.length := by
  have h1 := oneRun_le x []
  have h2 := oneRun_le y (oneRun [] x)
  show (oneRun (oneRun [] x) y).length ≤ _
  simp at h1
  omega
theorem oneP3_le (x y z : List P2) : (oneP [x, y, z]).length ≤ x.length + y.length + z.length := by
  have h1 := oneP2_le x y
  have h2 := oneRun_le z (oneRun (oneRun [] x) y)
  show (oneRun (oneRun (oneRun [] x) y) z).length ≤ _
  have h1 : (oneRun (oneRun [] x) y).length ≤ x.length + y.length := h1
  omega
theorem SlAt.cells {w : World} {s : Sl} (h : SlAt w s) {t : Nat} (ht : t < s.l.length) : ∃ g p, s.a = some ⟨g, p, none⟩ ∧ w.cell? ⟨g, p + t * 2, none⟩ = some (.int .i64 (s.l.getD t p20).1) ∧ w.cell? ⟨g, p + t * 2 + 1, none⟩ = some (.int .i64 (s.l.getD t p20).2) := by
  obtain ⟨g, p, _, hg, hc⟩ := h.2.2 (by omega)
  exact ⟨g, p, hg, hc t ht⟩
set_option maxRecDepth 20000 in
set_option maxHeartbeats 4000000 in
theorem mergeGroups_walk (M : MergeOK) (W : World) (a0 : Option Addr) (c0 : Nat) (l0 : List P2) (hc0 : l0.length ≤ c0) (hm0 : c0 ≤ maxLen) (rd0 : InP W (Till W.heap.size) a0 l0) (a1 : Option Addr) (c1 : Nat) (l1 : List P2) (hc1 : l1.length ≤ c1) (hm1 : c1 ≤ maxLen) (rd1 : InP W (Till W.heap.size) a1 l1)
    (a2 : Option Addr) (c2 : Nat) (l2 : List P2) (hc2 : l2.length ≤ c2) (hm2 : c2 ≤ maxLen) (rd2 : InP W (Till W.heap.size) a2 l2) :
    Calls Try.prog 6 #[.slice a0 l0.length c0, .slice a1 l1.length c1, .slice a2 l2.length c2] W fun e w' => e = .returned (.bool true) ∧ Below W.heap.size W w' := by
  have HM := Lib.hid M
  have fin : ∀ w' : World, Fr No W w' → Below W.heap.size W w' := fun w' f => f.below (Nat.le_refl _) (fun _ h => h.elim)
  have FIN := Lib.hid fin
  clear fin
  have S0 := Lib.hid (show SlAt W ⟨a0, c0, l0⟩ from ⟨hc0, hm0, rd0.all⟩)
  have S1 := Lib.hid (show SlAt W ⟨a1, c1, l1⟩ from ⟨hc1, hm1, rd1.all⟩)
  have S2 := Lib.hid (show SlAt W ⟨a2, c2, l2⟩ from ⟨hc2, hm2, rd2.all⟩)
  obtain ⟨rs, hrs⟩ : ∃ rs : List Rn, rs = [⟨a0, c0, l0⟩, ⟨a1, c1, l1⟩, ⟨a2, c2, l2⟩] := ⟨_, rfl⟩
  have IR : Hid (∀ w, Fr No W w → InR (w.alloc (.cells #[.slice a0 l0.length c0, .slice a1 l1.length c1, .slice a2 l2.length c2] 31)) All (some ⟨w.heap.size, 0, none⟩) rs) := Lib.hid fun w f => by
    rw [hrs]
    exact inR3 w _ (S0.out.keep f).2.2 (S1.out.keep f).2.2 (S2.out.keep f).2.2 hc0 hc1 hc2 hm0 hm1 hm2
  have hrl : rs.length = 3 := by rw [hrs]; rfl
  have HSM : Hid (∀ w, Fr No W w → Calls Try.prog 9 #[.slice (some ⟨w.heap.size, 0, none⟩) 3 3] (w.alloc (.cells #[.slice a0 l0.length c0, .slice a1 l1.length c1, .slice a2 l2.length c2] 31)) fun e w' => e = .returned (.bool (smallR rs)) ∧ w.alloc (.cells #[.slice a0 l0.length c0, .slice a1 l1.length c1, .slice a2 l2.length c2] 31) = w') := Lib.hid fun w f => by
    have := small_c All _ 3 rs _ (by omega) (by unfold maxLen; omega) (IR.out w f)
    rw [hrl] at this
    exact this
  cases hsm : smallR rs with
  | false =>
    rw [hsm] at HSM
    clear hsm hc0 hc1 hc2 hm0 hm1 hm2 rd0 rd1 rd2
    have HFA := Lib.hid ((Fr.refl No W).alloc (.cells #[.slice a0 l0.length c0, .slice a1 l1.length c1, .slice a2 l2.length c2] 31))
    generalize l0.length = n0 at *
    generalize l1.length = n1 at *
    generalize l2.length = n2 at *
    go_enter Try.func6, Try.ntmps6
    go_wp2_with fail
    refine (HSM.out W (Fr.refl _ _)).mono ?_
    rintro e w1 ⟨rfl, rfl⟩
    go_wp2_with fail
    refine (awake_c HM.out _).mono ?_
    rintro e w2 ⟨rfl, f2⟩
    have HF2 := Lib.hid (HFA.out.trans f2)
    clear f2
    go_wp2_with fail
    go_ret
    exact ⟨rfl, FIN.out _ HF2.out⟩
  | true =>
    rw [hsm] at HSM
    have hle : l0.length ≤ 40 ∧ l1.length ≤ 40 ∧ l2.length ≤ 40 := by
      have := (smallR_le hsm).2
      rw [hrs] at this
      exact ⟨this ⟨a0, c0, l0⟩ (by simp), this ⟨a1, c1, l1⟩ (by simp), this ⟨a2, c2, l2⟩ (by simp)⟩
    obtain ⟨k0, k1, k2⟩ := hle
    have HRU : Hid (∀ w, Fr No W w → Calls Try.prog 16 #[.slice (some ⟨w.heap.size, 0, none⟩) 3 3] (w.alloc (.cells #[.slice a0 l0.length c0, .slice a1 l1.length c1, .slice a2 l2.length c2] 31)) fun e w' => e = .returned (.bool (runsR rs)) ∧ Fr No w w') := Lib.hid fun w f => by
      have := refRuns_c All _ 3 rs _ (by omega) (by unfold maxLen; omega) (fun x hx => by
        have := (smallR_le hsm).2 x hx
        omega) (IR.out w f)
      rw [hrl] at this
      exact this.mono fun e w' h => ⟨h.1, ((Fr.refl No w).alloc _).trans h.2⟩
    have HFA := Lib.hid ((Fr.refl No W).alloc (.cells #[.slice a0 l0.length c0, .slice a1 l1.length c1, .slice a2 l2.length c2] 31))
    have IT : ∀ (a : Option Addr) (c : Nat) (l : List P2), SlAt W ⟨a, c, l⟩ → l.length ≤ 40 → ∀ w, Fr No W w → Calls Try.prog 19 #[.slice a l.length c] w fun e w' => ∃ u : Sl, e = .returned (.slice u.a l.length u.c) ∧ SlAt w' u ∧ u.l = l ∧ Fr No w w' := fun a c l h hl w f => by
      refine (items_c All a c l w (by omega) h.1 h.2.1 (h.keep f).2.2).mono ?_
      rintro e w' ⟨u, rfl, ⟨ua, uc, rfl, h1, h2, h3⟩, f2⟩
      exact ⟨⟨ua, uc, l⟩, rfl, ⟨h1, h2, h3.all⟩, rfl, f2⟩
    have IT0 := Lib.hid (IT a0 c0 l0 S0.out k0)
    have IT1 := Lib.hid (IT a1 c1 l1 S1.out k1)
    have IT2 := Lib.hid (IT a2 c2 l2 S2.out k2)
    have HRS := Lib.hid hrs
    have K0 := Lib.hid k0
    have K1 := Lib.hid k1
    have K2 := Lib.hid k2
    clear IT hsm hc0 hc1 hc2 hm0 hm1 hm2 rd0 rd1 rd2 hrl hrs
    obtain ⟨n0, hn0⟩ : ∃ z, l0.length = z := ⟨_, rfl⟩
    obtain ⟨n1, hn1⟩ : ∃ z, l1.length = z := ⟨_, rfl⟩
    obtain ⟨n2, hn2⟩ : ∃ z, l2.length = z := ⟨_, rfl⟩
    rw [hn0] at HSM HRU HFA IT0 k0
    rw [hn1] at HSM HRU HFA IT1 k1
    rw [hn2] at HSM HRU HFA IT2 k2
    rw [hn0, hn1, hn2]
    have HN0 := Lib.hid hn0
    have HN1 := Lib.hid hn1
    have HN2 := Lib.hid hn2
    clear hn0 hn1 hn2 IR
    cases hR : runsR rs with
    | false =>
      rw [hR] at HRU
      clear hR
      go_enter Try.func6, Try.ntmps6
      go_wp2_with fail
      refine (HSM.out W (Fr.refl _ _)).mono ?_
      rintro e w1 ⟨rfl, hw1⟩
      have HF1 : Hid (Fr No W w1) := Lib.hid (by rw [← hw1]; exact HFA.out)
      clear hw1
      go_wp2_with fail
      refine (HRU.out w1 HF1.out).mono ?_
      rintro e w2 ⟨rfl, f2⟩
      have HF2 := Lib.hid (HF1.out.trans f2)
      clear f2
      go_wp2_with fail
      refine (awake_c HM.out _).mono ?_
      rintro e w3 ⟨rfl, f3⟩
      have HF3 := Lib.hid (HF2.out.trans f3)
      clear f3
      go_wp2_with fail
      go_ret
      exact ⟨rfl, FIN.out _ HF3.out⟩
    | true =>
      rw [hR] at HRU
      have hso : SortP l0 ∧ SortP l1 ∧ SortP l2 := by
        rw [HRS.out, runsR_lens] at hR
        have hR : ([l0, l1, l2] : List (List P2)).all runP = true := hR
        simp at hR
        exact ⟨runP_iff.1 hR.1, runP_iff.1 hR.2.1, runP_iff.1 hR.2.2⟩
      obtain ⟨o0, o1, o2⟩ := hso
      have O0 := Lib.hid o0
      have O1 := Lib.hid o1
      have O2 := Lib.hid o2
      clear hR o0 o1 o2
      go_enter Try.func6, Try.ntmps6
      go_wp2_with fail
      refine (HSM.out W (Fr.refl _ _)).mono ?_
      rintro e w1 ⟨rfl, hw1⟩
      have HF1 : Hid (Fr No W w1) := Lib.hid (by rw [← hw1]; exact HFA.out)
      clear hw1
      go_wp2_with fail
      refine (HRU.out w1 HF1.out).mono ?_
      rintro e w2 ⟨rfl, f2⟩
      have HF2 := Lib.hid (HF1.out.trans f2)
      clear f2
      go_wp2_with fail
      refine (IT0.out w2 HF2.out).mono ?_
      rintro e w3 ⟨X, rfl, hX, eX, f3⟩
      have HF3 := Lib.hid (HF2.out.trans f3)
      have HX3 := Lib.hid hX
      have EX := Lib.hid eX
      clear f3 hX eX
      go_wp2_with fail
      refine (IT1.out w3 HF3.out).mono ?_
      rintro e w4 ⟨Y, rfl, hY, eY, f4⟩
      have HF4 := Lib.hid (HF3.out.trans f4)
      have HX4 := Lib.hid (HX3.out.keep f4)
      have HY4 := Lib.hid hY
      have EY := Lib.hid eY
      clear f4 hY eY
      go_wp2_with fail
      refine (IT2.out w4 HF4.out).mono ?_
      rintro e w5 ⟨Z, rfl, hZ, eZ, f5⟩
      have HF5 := Lib.hid (HF4.out.trans f5)
      have HX5 := Lib.hid (HX4.out.keep f5)
      have HY5 := Lib.hid (HY4.out.keep f5)
      have HZ5 := Lib.hid hZ
      have EZ := Lib.hid eZ
      clear f5 hZ eZ
      have SX : Hid (SortP X.l ∧ X.l.length = n0 ∧ X.l.length ≤ 40) := Lib.hid (by rw [EX.out]; exact ⟨O0.out, HN0.out, K0.out⟩)
      have SY : Hid (SortP Y.l ∧ Y.l.length = n1 ∧ Y.l.length ≤ 40) := Lib.hid (by rw [EY.out]; exact ⟨O1.out, HN1.out, K1.out⟩)
      have SZ : Hid (SortP Z.l ∧ Z.l.length = n2 ∧ Z.l.length ≤ 40) := Lib.hid (by rw [EZ.out]; exact ⟨O2.out, HN2.out, K2.out⟩)
      obtain ⟨m, hm⟩ : ∃ z, (oneP [X.l, Y.l, Z.l]).length = z := ⟨_, rfl⟩
      have hmb : m ≤ 120 := by
        have := oneP3_le X.l Y.l Z.l
        have h1 := SX.out.2.2
        have h2 := SY.out.2.2
        have h3 := SZ.out.2.2
        omega
      have HML := Lib.hid hm
      clear hm
      go_wp2_with fail
      -- all
      refine (merge3_c HM.out w5 X Y Z HX5.out HY5.out HZ5.out SX.out.1 SY.out.1 SZ.out.1 (by have := SX.out.2.2; omega) (by have := SY.out.2.2; omega) (by have := SZ.out.2.2; omega) SX.out.2.1 SY.out.2.1 SZ.out.2.1).mono ?_
      rintro e w6 ⟨A, rfl, hA, eA, f6⟩
      rw [show A.l.length = m by rw [eA]; exact HML.out]
      have HF6 := Lib.hid (HF5.out.trans f6)
      have HX6 := Lib.hid (HX5.out.keep f6)
      have HY6 := Lib.hid (HY5.out.keep f6)
      have HZ6 := Lib.hid (HZ5.out.keep f6)
      have HA6 := Lib.hid hA
      have EA := Lib.hid eA
      clear f6 hA eA
      go_wp2_with fail
      -- left, first
      refine (merge2_c HM.out w6 X Y HX6.out HY6.out SX.out.1 SY.out.1 (by have := SX.out.2.2; omega) (by have := SY.out.2.2; omega) SX.out.2.1 SY.out.2.1).mono ?_
      rintro e w7 ⟨L, rfl, hL, eL, f7⟩
      obtain ⟨nl, hnl⟩ : ∃ z, L.l.length = z := ⟨_, rfl⟩
      rw [hnl]
      have SL : Hid (SortP L.l ∧ L.l.length = nl ∧ L.l.length ≤ 80) := Lib.hid ⟨by rw [eL]; exact oneP_sort _, hnl, by
        have := oneP2_le X.l Y.l
        have h1 := SX.out.2.2
        have h2 := SY.out.2.2
        rw [eL]
        omega⟩
      have HF7 := Lib.hid (HF6.out.trans f7)
      have HX7 := Lib.hid (HX6.out.keep f7)
      have HY7 := Lib.hid (HY6.out.keep f7)
      have HZ7 := Lib.hid (HZ6.out.keep f7)
      have HA7 := Lib.hid (HA6.out.keep f7)
      have HL7 := Lib.hid hL
      have EL := Lib.hid eL
      clear f7 hL eL hnl
      go_wp2_with fail
      -- left
      refine (merge2_c HM.out w7 L Z HL7.out HZ7.out SL.out.1 SZ.out.1 (by have := SL.out.2.2; omega) (by have := SZ.out.2.2; omega) SL.out.2.1 SZ.out.2.1).mono ?_
      rintro e w8 ⟨B, rfl, hB, eB, f8⟩
      have eB : B.l = oneP [X.l, Y.l, Z.l] := by rw [eB, EL.out]; exact group_left _ _ _
      rw [show B.l.length = m by rw [eB]; exact HML.out]
      have HF8 := Lib.hid (HF7.out.trans f8)
      have HX8 := Lib.hid (HX7.out.keep f8)
      have HY8 := Lib.hid (HY7.out.keep f8)
      have HZ8 := Lib.hid (HZ7.out.keep f8)
      have HA8 := Lib.hid (HA7.out.keep f8)
      have HB8 := Lib.hid hB
      have EB := Lib.hid eB
      clear f8 hB eB
      go_wp2_with fail
      -- right, first
      refine (merge2_c HM.out w8 Y Z HY8.out HZ8.out SY.out.1 SZ.out.1 (by have := SY.out.2.2; omega) (by have := SZ.out.2.2; omega) SY.out.2.1 SZ.out.2.1).mono ?_
      rintro e w9 ⟨R, rfl, hR, eR, f9⟩
      obtain ⟨nr, hnr⟩ : ∃ z, R.l.length = z := ⟨_, rfl⟩
      rw [hnr]
      have SR : Hid (SortP R.l ∧ R.l.length = nr ∧ R.l.length ≤ 80) := Lib.hid ⟨by rw [eR]; exact oneP_sort _, hnr, by
        have := oneP2_le Y.l Z.l
        have h1 := SY.out.2.2
        have h2 := SZ.out.2.2
        rw [eR]
        omega⟩
      have HF9 := Lib.hid (HF8.out.trans f9)
      have HX9 := Lib.hid (HX8.out.keep f9)
      have HA9 := Lib.hid (HA8.out.keep f9)
      have HB9 := Lib.hid (HB8.out.keep f9)
      have HR9 := Lib.hid hR
      have ER := Lib.hid eR
      clear f9 hR eR hnr
      go_wp2_with fail
      -- right
      refine (merge2_c HM.out w9 X R HX9.out HR9.out SX.out.1 SR.out.1 (by have := SX.out.2.2; omega) (by have := SR.out.2.2; omega) SX.out.2.1 SR.out.2.1).mono ?_
      rintro e w10 ⟨C, rfl, hC, eC, f10⟩
      have eC : C.l = oneP [X.l, Y.l, Z.l] := by rw [eC, ER.out]; exact group_right _ _ _
      rw [show C.l.length = m by rw [eC]; exact HML.out]
      have HF10 := Lib.hid (HF9.out.trans f10)
      have HX10 := Lib.hid (HX9.out.keep f10)
      have HA10 := Lib.hid (HA9.out.keep f10)
      have HB10 := Lib.hid (HB9.out.keep f10)
      have HC10 := Lib.hid hC
      have EC := Lib.hid eC
      clear f10 hC eC
      go_wp2_with fail
      -- twice
      refine (merge2_c HM.out w10 X X HX10.out HX10.out SX.out.1 SX.out.1 (by have := SX.out.2.2; omega) (by have := SX.out.2.2; omega) SX.out.2.1 SX.out.2.1).mono ?_
      rintro e w11 ⟨D, rfl, hD, eD, f11⟩
      have eD : D.l = X.l := by rw [eD]; exact group_twice SX.out.1
      rw [show D.l.length = n0 by rw [eD]; exact SX.out.2.1]
      have HF11 := Lib.hid (HF10.out.trans f11)
      have HX11 := Lib.hid (HX10.out.keep f11)
      have HA11 := Lib.hid (HA10.out.keep f11)
      have HB11 := Lib.hid (HB10.out.keep f11)
      have HC11 := Lib.hid (HC10.out.keep f11)
      have HD11 := Lib.hid hD
      have ED := Lib.hid eD
      clear f11 hD eD
      have d0 : ((m : Int) == (m : Int)) = true := by simp
      have d1 : ((n0 : Int) == (n0 : Int)) = true := by simp
      have ac := HA11.out.1
      have am := HA11.out.2.1
      have bc := HB11.out.1
      have bm := HB11.out.2.1
      have cc := HC11.out.1
      have cm := HC11.out.2.1
      have xc := HX11.out.1
      have xm := HX11.out.2.1
      have dc := HD11.out.1
      have dm := HD11.out.2.1
      rw [show A.l.length = m by rw [EA.out]; exact HML.out] at ac
      rw [show B.l.length = m by rw [EB.out]; exact HML.out] at bc
      rw [show C.l.length = m by rw [EC.out]; exact HML.out] at cc
      rw [SX.out.2.1] at xc
      rw [show D.l.length = n0 by rw [ED.out]; exact SX.out.2.1] at dc
      unfold maxLen at am bm cm xm dm
      go_wp2_with fail
      go_loopw [105] (fun i wr => ∃ t : Nat, i = .int .i64 t ∧ t ≤ m ∧ Fr No w11 wr) (fun i _ => m - (intOf i).toNat)
      case atStart => exact ⟨0, rfl, Nat.zero_le _, Fr.refl _ _⟩
      case round =>
        obtain ⟨t, rfl, ht, hfr⟩ := hrel
        have HF := Lib.hid hfr
        clear hfr
        by_cases h1 : t < m
        · have d2 : decide ((t : Int) < (m : Int)) = true := by rw [decide_eq_true_eq]; omega
          obtain ⟨ga, pa, ea, ra0, ra1⟩ := (HA11.out.keep HF.out).cells (t := t) (by rw [EA.out, HML.out]; exact h1)
          obtain ⟨gb, pb, eb, rb0, rb1⟩ := (HB11.out.keep HF.out).cells (t := t) (by rw [EB.out, HML.out]; exact h1)
          obtain ⟨gc, pc, ec, rc0, rc1⟩ := (HC11.out.keep HF.out).cells (t := t) (by rw [EC.out, HML.out]; exact h1)
          rw [EA.out] at ra0 ra1
          rw [EB.out] at rb0 rb1
          rw [EC.out] at rc0 rc1
          rw [ea, eb, ec]
          generalize ((oneP [X.l, Y.l, Z.l]).getD t p20).1 = kx at *
          generalize ((oneP [X.l, Y.l, Z.l]).getD t p20).2 = vx at *
          have d3 : (kx == kx) = true := by simp
          have d4 : (vx == vx) = true := by simp
          clear ea eb ec
          go_wp2_with fail
          go_region
          go_wp2_with fail
          go_roundw
          case rel => exact ⟨t + 1, by simp, by omega, HF.out.drew⟩
          case measure => simp [intOf]; omega
        · obtain rfl : t = m := by omega
          have d2 : decide ((t : Int) < (t : Int)) = false := by simp
          go_wp2_with fail
          clear d2
          go_loopw [131] (fun i wr => ∃ s : Nat, i = .int .i64 s ∧ s ≤ n0 ∧ Fr No w11 wr) (fun i _ => n0 - (intOf i).toNat)
          case atStart => exact ⟨0, rfl, Nat.zero_le _, HF.out⟩
          case round =>
            obtain ⟨s, rfl, hs, hfr⟩ := hrel
            have HFS := Lib.hid hfr
            clear hfr
            by_cases h2 : s < n0
            · have d2 : decide ((s : Int) < (n0 : Int)) = true := by rw [decide_eq_true_eq]; omega
              obtain ⟨ga, pa, ea, ra0, ra1⟩ := (HX11.out.keep HFS.out).cells (t := s) (by rw [SX.out.2.1]; exact h2)
              obtain ⟨gb, pb, eb, rb0, rb1⟩ := (HD11.out.keep HFS.out).cells (t := s) (by rw [ED.out, SX.out.2.1]; exact h2)
              rw [ED.out] at rb0 rb1
              rw [ea, eb]
              generalize (X.l.getD s p20).1 = kx at *
              generalize (X.l.getD s p20).2 = vx at *
              have d3 : (kx == kx) = true := by simp
              have d4 : (vx == vx) = true := by simp
              clear ea eb
              go_wp2_with fail
              go_region
              go_wp2_with fail
              go_roundw
              case rel => exact ⟨s + 1, by simp, by omega, HFS.out.drew⟩
              case measure => simp [intOf]; omega
            · obtain rfl : s = n0 := by omega
              have d2 : decide ((s : Int) < (s : Int)) = false := by simp
              go_wp2_with fail
              refine (awake_c HM.out _).mono ?_
              rintro e w12 ⟨rfl, f12⟩
              have HF12 := Lib.hid ((HF11.out.trans HFS.out).trans f12)
              clear f12
              go_wp2_with fail
              go_ret
              exact ⟨rfl, FIN.out _ HF12.out⟩
end Go.Proofs.Ytkcgdmhggndhfaa
