/-
  The walk of IkeyLess.
-/
import Derived.Test.YtdpfgkjjjjkfkaaIkF
namespace Go.Proofs.Ytdpfgkjjjjkfkaa
set_option linter.unusedVariables false
open Go.RowKit

theorem less_ways (a b c : List UInt8) : ∃ x y z : Bool, decide (Lib.compareBytes a b < 0) = x ∧ decide (Lib.compareBytes b c < 0) = y ∧ decide (Lib.compareBytes a c < 0) = z ∧
    ((x = false) ∨ (x = true ∧ y = false) ∨ (x = true ∧ y = true ∧ z = true)) := by
  refine ⟨_, _, _, rfl, rfl, rfl, ?_⟩
  by_cases h1 : Lib.compareBytes a b < 0
  · by_cases h2 : Lib.compareBytes b c < 0
    · obtain ⟨t1, t2⟩ := cmpB_trans a b c (Int.le_of_lt h1) (Int.le_of_lt h2)
      have : Lib.compareBytes a c < 0 := by
        rcases Int.lt_or_eq_of_le t1 with h | h
        · exact h
        · have := (t2 h).1; exact absurd this (Int.ne_of_lt h1)
      exact .inr (.inr ⟨decide_eq_true h1, decide_eq_true h2, decide_eq_true this⟩)
    · exact .inr (.inl ⟨decide_eq_true h1, decide_eq_false h2⟩)
  · exact .inl (decide_eq_false h1)
set_option maxRecDepth 20000 in
set_option maxHeartbeats 2000000 in
theorem lessLaw_c (a b c : Option Addr) (ca cb cc : Nat) (la lb lc : List UInt8) (w : World) (hma : la.length ≤ maxLen) (hmb : lb.length ≤ maxLen) (hmc : lc.length ≤ maxLen) (ra : Rd w a la) (rb : Rd w b lb) (rc : Rd w c lc) :
    Calls Try.prog 7 #[.slice a la.length ca, .slice b lb.length cb, .slice c lc.length cc] w (Yes w) := by
  have CA := Lib.hid awake_c
  unfold maxLen at hma hmb hmc
  by_cases h : la.length ≤ 500 ∧ lb.length ≤ 500 ∧ lc.length ≤ 500
  · obtain ⟨h1, h2, h3⟩ := h
    obtain ⟨x, y, z, hx, hy, hz, hw⟩ := less_ways la lb lc
    have CO := fun w => orderE_c (strOf la) (strOf lb) (by rw [show (strOf la).size = la.length from size_of_list la]; unfold maxLen; omega) (by rw [show (strOf lb).size = lb.length from size_of_list lb]; unfold maxLen; omega) w
    have C1 := fun w ra rb => less_c a b la.length ca lb.length cb la lb w rfl rfl ra rb
    have C2 := fun w rb rc => less_c b c lb.length cb lc.length cc lb lc w rfl rfl rb rc
    have C3 := fun w ra rc => less_c a c la.length ca lc.length cc la lc w rfl rfl ra rc
    have C4 := fun w ra ra' => less_c a a la.length ca la.length ca la la w rfl rfl ra ra'
    rw [show decide (Lib.compareBytes la la < 0) = false by rw [show Lib.compareBytes la la = 0 from cmpB_self la]; rfl] at C4
    have ka := conv_rd w.drew a la.length ca la rfl ra
    have kb := conv_rd w.drew b lb.length cb lb rfl rb
    have e1 : (strOf la).data.toList = la := rfl
    have e2 : (strOf lb).data.toList = lb := rfl
    rw [e1, e2] at CO
    generalize Lib.compareBytes la lb = cab at *
    rw [hx] at C1
    rw [hy] at C2
    rw [hz] at C3
    generalize strOf la = sa at *
    generalize strOf lb = sb at *
    have RA := Lib.hid ra
    have RB := Lib.hid rb
    have RC := Lib.hid rc
    have CO := Lib.hid CO
    have C1 := Lib.hid C1
    have C2 := Lib.hid C2
    have C3 := Lib.hid C3
    have C4 := Lib.hid C4
    clear hy hz e1 e2 ra rb rc
    generalize la.length = na at *
    generalize lb.length = nb at *
    generalize lc.length = nc at *
    rcases hw with rfl | ⟨rfl, rfl⟩ | ⟨rfl, rfl, rfl⟩
    · as_aux_lemma =>
      go_enter Try.func7, Try.ntmps7
      go_wp2_with fail
      go_still_tail 7, (by kernel_rfl)
      still_call (still_of (C1.out _ RA.out RB.out))
      repeat still_step
      refine wpStill_nil ?_
      go_wp2_with fail
      refine (CO.out _).mono ?_
      rintro e wk ⟨rfl, hf⟩
      have hf := (Fr.refl No w).drew.trans hf
      have RA := Lib.hid (Rd.keep RA.out hf)
      have RB := Lib.hid (Rd.keep RB.out hf)
      have RC := Lib.hid (Rd.keep RC.out hf)
      have HF := Lib.hid hf
      clear hf ka kb
      go_wp2_with fail
      refine (C1.out _ RA.out RB.out).mono ?_
      rintro e w2 ⟨rfl, rfl⟩
      go_wp2_with fail
      refine (C4.out _ RA.out RA.out).mono ?_
      rintro e w2 ⟨rfl, rfl⟩
      go_wp2_with fail
      refine (CA.out _).mono ?_
      rintro e w2 ⟨rfl, hf⟩
      go_wp2_with fail
      go_ret
      exact ⟨rfl, HF.out.trans hf⟩
    · as_aux_lemma =>
      go_enter Try.func7, Try.ntmps7
      go_wp2_with fail
      go_still_tail 7, (by kernel_rfl)
      still_call (still_of (C1.out _ RA.out RB.out))
      repeat still_step
      refine wpStill_nil ?_
      go_wp2_with fail
      refine (CO.out _).mono ?_
      rintro e wk ⟨rfl, hf⟩
      have hf := (Fr.refl No w).drew.trans hf
      have RA := Lib.hid (Rd.keep RA.out hf)
      have RB := Lib.hid (Rd.keep RB.out hf)
      have RC := Lib.hid (Rd.keep RC.out hf)
      have HF := Lib.hid hf
      clear hf ka kb
      go_wp2_with fail
      refine (C1.out _ RA.out RB.out).mono ?_
      rintro e w2 ⟨rfl, rfl⟩
      go_wp2_with fail
      refine (C2.out _ RB.out RC.out).mono ?_
      rintro e w2 ⟨rfl, rfl⟩
      go_wp2_with fail
      refine (C4.out _ RA.out RA.out).mono ?_
      rintro e w2 ⟨rfl, rfl⟩
      go_wp2_with fail
      refine (CA.out _).mono ?_
      rintro e w2 ⟨rfl, hf⟩
      go_wp2_with fail
      go_ret
      exact ⟨rfl, HF.out.trans hf⟩
    · as_aux_lemma =>
      go_enter Try.func7, Try.ntmps7
      go_wp2_with fail
      go_still_tail 7, (by kernel_rfl)
      still_call (still_of (C1.out _ RA.out RB.out))
      repeat still_step
      refine wpStill_nil ?_
      go_wp2_with fail
      refine (CO.out _).mono ?_
      rintro e wk ⟨rfl, hf⟩
      have hf := (Fr.refl No w).drew.trans hf
      have RA := Lib.hid (Rd.keep RA.out hf)
      have RB := Lib.hid (Rd.keep RB.out hf)
      have RC := Lib.hid (Rd.keep RC.out hf)
      have HF := Lib.hid hf
      clear hf ka kb
      go_wp2_with fail
      refine (C1.out _ RA.out RB.out).mono ?_
      rintro e w2 ⟨rfl, rfl⟩
      go_wp2_with fail
      refine (C2.out _ RB.out RC.out).mono ?_
      rintro e w2 ⟨rfl, rfl⟩
      go_wp2_with fail
      refine (C3.out _ RA.out RC.out).mono ?_
      rintro e w2 ⟨rfl, rfl⟩
      go_wp2_with fail
      refine (C4.out _ RA.out RA.out).mono ?_
      rintro e w2 ⟨rfl, rfl⟩
      go_wp2_with fail
      refine (CA.out _).mono ?_
      rintro e w2 ⟨rfl, hf⟩
      go_wp2_with fail
      go_ret
      exact ⟨rfl, HF.out.trans hf⟩
  · have h' : ¬ la.length ≤ 500 ∨ (la.length ≤ 500 ∧ ¬ lb.length ≤ 500) ∨ (la.length ≤ 500 ∧ lb.length ≤ 500 ∧ ¬ lc.length ≤ 500) := by omega
    clear h ra rb rc
    generalize la.length = na at *
    generalize lb.length = nb at *
    generalize lc.length = nc at *
    rcases h' with h1 | ⟨h1, h2⟩ | ⟨h1, h2, h3⟩
    all_goals
      go_enter Try.func7, Try.ntmps7
      go_wp2_with fail
      refine (CA.out _).mono ?_
      rintro e wk ⟨rfl, hf⟩
      go_wp2_with fail
      go_ret
      exact ⟨rfl, hf⟩
theorem ikeyLess_walk (w : World) (a : Option Addr) (ca : Nat) (la : List UInt8) (_ : la.length ≤ ca) (hma : ca ≤ maxLen) (ra : Rd w a la) (b : Option Addr) (cb : Nat) (lb : List UInt8) (_ : lb.length ≤ cb) (hmb : cb ≤ maxLen) (rb : Rd w b lb)
    (c : Option Addr) (cc : Nat) (lc : List UInt8) (_ : lc.length ≤ cc) (hmc : cc ≤ maxLen) (rc : Rd w c lc) :
    Calls Try.prog 7 #[.slice a la.length ca, .slice b lb.length cb, .slice c lc.length cc] w fun e w' => e = .returned (.bool true) ∧ Below w.heap.size w w' :=
  (lessLaw_c a b c ca cb cc la lb lc w (by omega) (by omega) (by omega) ra rb rc).mono fun _ _ h => h.post
end Go.Proofs.Ytdpfgkjjjjkfkaa
