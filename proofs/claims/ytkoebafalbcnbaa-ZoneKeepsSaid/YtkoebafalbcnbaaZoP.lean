/-
  Layer 7, plain mathematics: what a command tells of power. No program is named.
-/
import Derived.Test.YtkoebafalbcnbaaZoA
namespace Go.Proofs.Ytkoebafalbcnbaa
set_option linter.unusedVariables false

/-- A device that was armed with n. -/
structure PowI (n : Int) (m : Dev) : Prop where
  neg : n < 0 → m.arm = none ∧ m.down = false
  le : 0 ≤ n → (m.done : Int) ≤ n
  dn : 0 ≤ n → m.down = true → (m.done : Int) = n
  up : 0 ≤ n → m.down = false → m.arm = some (n.toNat - m.done)
/-- One call that tells an error. -/
structure StepOK (m : Dev) (e : Int) (m' : Dev) : Prop where
  a : m.down = true → e = 74
  b : m'.down = (e == 74)
  c : ∀ n, PowI n m → PowI n m'
  d : m'.done ≤ m.done + 1
theorem stay {m : Dev} {e : Int} (h : m.down = (e == 74)) : StepOK m e m := ⟨fun h1 => by rw [h1] at h; exact eq_of_beq h.symm, h, fun _ h => h, Nat.le_succ _⟩
theorem step_pow {m m0 : Dev} (h : m.down = false) (h1 : m0.arm = m.arm) (h2 : m0.done = m.done) (h3 : m0.down = m.down) : StepOK m (if cmdM m then 0 else 74) (powM m0) := by
  unfold cmdM powM
  rw [h1]
  cases e : m.arm with
  | none =>
    refine ⟨fun h4 => absurd h4 (by rw [h]; exact Bool.false_ne_true), by show m0.down = _; rw [h3, h]; rfl, fun n hn => ⟨fun h4 => ⟨rfl, by show m0.down = _; rw [h3, h]⟩, fun h4 => ?_, fun h4 h5 => ?_, fun h4 h5 => ?_⟩, by show m0.done + 1 ≤ _; omega⟩
    · have := hn.up h4 h
      rw [e] at this
      cases this
    · have : m0.down = true := h5
      rw [h3, h] at this
      cases this
    · have := hn.up h4 h
      rw [e] at this
      cases this
  | some k =>
    cases k with
    | zero =>
      refine ⟨fun h4 => absurd h4 (by rw [h]; exact Bool.false_ne_true), rfl, fun n hn => ⟨fun h4 => ?_, fun h4 => ?_, fun h4 _ => ?_, fun h4 h5 => by cases h5⟩, by show m0.done ≤ _; omega⟩
      · have := (hn.neg h4).1
        rw [e] at this
        cases this
      · show (m0.done : Int) ≤ n
        rw [h2]
        exact hn.le h4
      · have h6 := hn.up h4 h
        rw [e] at h6
        have h6 := Option.some.inj h6
        have := hn.le h4
        show (m0.done : Int) = n
        omega
    | succ k =>
      refine ⟨fun h4 => absurd h4 (by rw [h]; exact Bool.false_ne_true), by show m0.down = _; rw [h3, h]; rfl, fun n hn => ⟨fun h4 => ?_, fun h4 => ?_, fun h4 h5 => ?_, fun h4 _ => ?_⟩, by show m0.done + 1 ≤ _; omega⟩
      · have := (hn.neg h4).1
        rw [e] at this
        cases this
      · have h6 := hn.up h4 h
        rw [e] at h6
        have h6 := Option.some.inj h6
        show ((m0.done + 1 : Nat) : Int) ≤ n
        omega
      · have : m0.down = true := h5
        rw [h3, h] at this
        cases this
      · have h6 := hn.up h4 h
        rw [e] at h6
        have h6 := Option.some.inj h6
        show some k = some (n.toNat - (m0.done + 1))
        congr 1
        omega
theorem cmdR_zero {m : Dev} {e : Int} (h : e = 0) : cmdR m e = if cmdM m then 0 else 74 := by unfold cmdR; rw [if_pos h]
theorem cmdR_err {m : Dev} {e : Int} (h : ¬ e = 0) : cmdR m e = e := by unfold cmdR; rw [if_neg h]
theorem appErr_down (m : Dev) (z : Int) (b : List UInt8) : m.down = (appErr m z b == 74) := by
  unfold appErr
  cases m.down with
  | true => rfl
  | false => repeat' split
             all_goals first | rfl | contradiction
theorem finErr_down (m : Dev) (z : Int) : m.down = (finErr m z == 74) := by
  unfold finErr
  cases m.down with
  | true => rfl
  | false => repeat' split
             all_goals first | rfl | contradiction
theorem resErr_down (m : Dev) (z : Int) : m.down = (resErr m z == 74) := by
  unfold resErr
  cases m.down with
  | true => rfl
  | false => repeat' split
             all_goals first | rfl | contradiction
theorem fluErr_down (m : Dev) : m.down = (fluErr m == 74) := by
  unfold fluErr
  cases m.down <;> rfl
theorem rdErr_down (m : Dev) (z t n : Int) : m.down = (rdErr m z t n == 74) := by
  unfold rdErr
  cases m.down with
  | true => rfl
  | false => repeat' split
             all_goals first | rfl | contradiction
theorem step_app (m : Dev) (z : Int) (b : List UInt8) : StepOK m (cmdR m (appErr m z b)) (appM m z b) := by
  by_cases h : appErr m z b = 0
  · rw [cmdR_zero h]
    unfold appM
    rw [if_pos h]
    exact step_pow (appErr_ok h).1 rfl rfl rfl
  · rw [cmdR_err h]
    unfold appM
    rw [if_neg h]
    exact stay (appErr_down m z b)
theorem step_two {m m1 : Dev} (h : m.down = false) (h1 : m1.arm = m.arm) (h2 : m1.done = m.done) (h3 : m1.down = m.down) : StepOK m (if cmdM m then 0 else 74) (if cmdM m then powM m1 else powM m) := by
  cases hc : cmdM m with
  | true =>
    have := step_pow (m0 := m1) h h1 h2 h3
    rwa [hc] at this
  | false =>
    have := step_pow (m0 := m) h rfl rfl rfl
    rwa [hc] at this
theorem step_res (m : Dev) (z : Int) : StepOK m (cmdR m (resErr m z)) (resM m z) := by
  by_cases h : resErr m z = 0
  · rw [cmdR_zero h]
    unfold resM
    rw [if_pos h]
    exact step_two (resErr_ok h).1 rfl rfl rfl
  · rw [cmdR_err h]
    unfold resM
    rw [if_neg h]
    exact stay (resErr_down m z)
theorem step_fin (m : Dev) (z : Int) : StepOK m (cmdR m (finErr m z)) (finM m z) := by
  by_cases h : finErr m z = 0
  · rw [cmdR_zero h]
    unfold finM
    rw [if_pos h]
    exact step_two (finErr_ok h).1 rfl rfl rfl
  · rw [cmdR_err h]
    unfold finM
    rw [if_neg h]
    exact stay (finErr_down m z)
theorem fluErr_ok {m : Dev} (h : fluErr m = 0) : m.down = false := by
  unfold fluErr at h
  cases e : m.down with
  | true => rw [e] at h; simp at h
  | false => rfl
theorem step_flu (m : Dev) : StepOK m (cmdR m (fluErr m)) (fluM m) := by
  by_cases h : fluErr m = 0
  · rw [cmdR_zero h]
    unfold fluM
    rw [if_pos h]
    exact step_two (fluErr_ok h) rfl rfl rfl
  · rw [cmdR_err h]
    unfold fluM
    rw [if_neg h]
    exact stay (fluErr_down m)
theorem step_rd (m : Dev) (z t n : Int) : StepOK m (rdErr m z t n) m := stay (rdErr_down m z t n)
theorem pow_arm {m : Dev} (h : m.done = 0) (hd : m.down = false) (n : Int) : PowI n (armM m n) := by
  refine ⟨fun h1 => ⟨by show (if n < 0 then none else some n.toNat) = none; rw [if_pos h1], hd⟩, fun h1 => ?_, fun h1 h2 => ?_, fun h1 _ => ?_⟩
  · show (m.done : Int) ≤ n
    omega
  · have : m.down = true := h2
    rw [hd] at this
    cases this
  · show (if n < 0 then none else some n.toNat) = some (n.toNat - m.done)
    rw [if_neg (by omega), h, Nat.sub_zero]
end Go.Proofs.Ytkoebafalbcnbaa
