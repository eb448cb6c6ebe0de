/-
  Layer 5: contracts of the document's Above and Below.
-/
import Derived.Test.YtdnaebbfbkdjoaaSkA
namespace Go.Proofs.Ytdnaebbfbkdjoaa
set_option linter.unusedVariables false
open Go.RowKit

theorem lastTo_yes (p : Pr → Bool) (l : List Pr) (i : Nat) : ∀ n, i < n → (∀ j, i < j → j < n → p (l.getD j pr0) = false) → p (l.getD i pr0) = true → lastTo p l n = (i : Int) := by
  intro n
  induction n with
  | zero => intro h; omega
  | succ n ih =>
    intro hi hj hp
    rcases Nat.lt_or_ge i n with h | h
    · have h1 := hj n h (by omega)
      simp only [lastTo, h1, Bool.false_eq_true, if_false]
      exact ih h (fun j a b => hj j a (by omega)) hp
    · obtain rfl : i = n := by omega
      show (if p (l.getD i pr0) then (i : Int) else lastTo p l i) = (i : Int)
      rw [if_pos hp]
theorem lastTo_no (p : Pr → Bool) (l : List Pr) : ∀ n, (∀ j, j < n → p (l.getD j pr0) = false) → lastTo p l n = -1 := by
  intro n
  induction n with
  | zero => intro _; rfl
  | succ n ih =>
    intro hj
    have h1 := hj n (by omega)
    simp only [lastTo, h1, Bool.false_eq_true, if_false]
    exact ih fun j h => hj j (by omega)
set_option maxRecDepth 20000 in
set_option maxHeartbeats 1600000 in
theorem refAbove_c (X : Nat → Prop) (b : Nat) (l : List Pr) (k : Int) (same : Bool) (w : World) (h : RL w X b l) :
    Calls Try.prog 22 #[.pointer (some ⟨b, 0, none⟩), .int .i64 k, .bool same] w fun e w' => e = .returned (.int .i64 (aboveI l k same)) ∧ w = w' := by
  obtain ⟨a, cap, c0, _, hc1, hc2, hcells⟩ := h.cells
  unfold maxLen at hc2
  have HC := Lib.hid hcells
  have HY := Lib.hid (fun s => firstAt_yes (aboveP k s) l)
  have HN := Lib.hid (fun s => firstAt_no (aboveP k s) l)
  have HD : Hid (∀ s, aboveI l k s = firstAt (aboveP k s) l 0) := Lib.hid fun _ => rfl
  clear h hcells
  generalize l.length = n at *
  have HY0 := HY
  have HN0 := HN
  have HD0 := HD
  clear HY HN HD
  cases same with
  | false =>
    have HY := Lib.hid (HY0.out false)
    have HN := Lib.hid (HN0.out false)
    have HD := Lib.hid (HD0.out false)
    clear HY0 HN0 HD0
    go_enter Try.func22, Try.ntmps22
    go_wp2_with fail
    go_loopw [7] (fun i wr => ∃ j : Nat, i = .int .i64 j ∧ j ≤ n ∧ w = wr ∧ ∀ t, t < j → aboveP k false (l.getD t pr0) = false) (fun i _ => n - (intOf i).toNat)
    case atStart => exact ⟨0, rfl, Nat.zero_le _, rfl, fun t h => absurd h (Nat.not_lt_zero t)⟩
    case round =>
      obtain ⟨j, rfl, hj, rfl, hall⟩ := hrel
      have HA := Lib.hid hall
      clear hall
      by_cases h1 : j < n
      · obtain ⟨g, _, _, rfl, hx⟩ := HC.out (by omega)
        obtain ⟨q0, q1, q2, _⟩ := hx j h1
        cases d1 : decide (k < (l.getD j pr0).k) with
        | true =>
          have hp : aboveP k false (l.getD j pr0) = true := by unfold aboveP; rw [d1]; rfl
          have HR := Lib.hid (HD.out.trans (HY.out j h1 HA.out hp))
          generalize (l.getD j pr0).k = x at *
          generalize (l.getD j pr0).v = y at *
          generalize (l.getD j pr0).h = z at *
          clear hx
          go_wp2_with fail
          go_ret
          exact ⟨congrArg (fun x => Ending.returned (.int .i64 x)) HR.out.symm, rfl⟩
        | false =>
          have hp : aboveP k false (l.getD j pr0) = false := by unfold aboveP; rw [d1]; rfl
          have HA2 : Hid (∀ t, t < j + 1 → aboveP k false (l.getD t pr0) = false) := Lib.hid fun t ht => by
            rcases Nat.lt_or_ge t j with h | h
            · exact HA.out t h
            · obtain rfl : t = j := by omega
              exact hp
          generalize (l.getD j pr0).k = x at *
          generalize (l.getD j pr0).v = y at *
          generalize (l.getD j pr0).h = z at *
          clear hx
          go_wp2_with fail
          go_roundw
          case rel => exact ⟨j + 1, by simp, by omega, by simp, HA2.out⟩
          case measure => simp [intOf]; omega
      · have hjn : j = n := by omega
        subst hjn
        have HR := Lib.hid (HD.out.trans (HN.out HA.out))
        go_wp2_with fail
        go_ret
        exact ⟨congrArg (fun x => Ending.returned (.int .i64 x)) HR.out.symm, rfl⟩
  | true =>
    have HY := Lib.hid (HY0.out true)
    have HN := Lib.hid (HN0.out true)
    have HD := Lib.hid (HD0.out true)
    clear HY0 HN0 HD0
    go_enter Try.func22, Try.ntmps22
    go_wp2_with fail
    go_loopw [7] (fun i wr => ∃ j : Nat, i = .int .i64 j ∧ j ≤ n ∧ w = wr ∧ ∀ t, t < j → aboveP k true (l.getD t pr0) = false) (fun i _ => n - (intOf i).toNat)
    case atStart => exact ⟨0, rfl, Nat.zero_le _, rfl, fun t h => absurd h (Nat.not_lt_zero t)⟩
    case round =>
      obtain ⟨j, rfl, hj, rfl, hall⟩ := hrel
      have HA := Lib.hid hall
      clear hall
      by_cases h1 : j < n
      · obtain ⟨g, _, _, rfl, hx⟩ := HC.out (by omega)
        obtain ⟨q0, q1, q2, _⟩ := hx j h1
        cases d1 : decide (k < (l.getD j pr0).k) with
        | true =>
          have hp : aboveP k true (l.getD j pr0) = true := by unfold aboveP; rw [d1]; rfl
          have HR := Lib.hid (HD.out.trans (HY.out j h1 HA.out hp))
          generalize (l.getD j pr0).k = x at *
          generalize (l.getD j pr0).v = y at *
          generalize (l.getD j pr0).h = z at *
          clear hx
          go_wp2_with fail
          go_ret
          exact ⟨congrArg (fun x => Ending.returned (.int .i64 x)) HR.out.symm, rfl⟩
        | false =>
          cases d2 : (l.getD j pr0).k == k with
          | true =>
            have hp : aboveP k true (l.getD j pr0) = true := by unfold aboveP; rw [d1, d2]; rfl
            have HR := Lib.hid (HD.out.trans (HY.out j h1 HA.out hp))
            generalize (l.getD j pr0).k = x at *
            generalize (l.getD j pr0).v = y at *
            generalize (l.getD j pr0).h = z at *
            clear hx
            go_wp2_with fail
            go_ret
            exact ⟨congrArg (fun x => Ending.returned (.int .i64 x)) HR.out.symm, rfl⟩
          | false =>
            have hp : aboveP k true (l.getD j pr0) = false := by unfold aboveP; rw [d1, d2]; rfl
            have HA2 : Hid (∀ t, t < j + 1 → aboveP k true (l.getD t pr0) = false) := Lib.hid fun t ht => by
              rcases Nat.lt_or_ge t j with h | h
              · exact HA.out t h
              · obtain rfl : t = j := by omega
                exact hp
            generalize (l.getD j pr0).k = x at *
            generalize (l.getD j pr0).v = y at *
            generalize (l.getD j pr0).h = z at *
            clear hx
            go_wp2_with fail
            go_roundw
            case rel => exact ⟨j + 1, by simp, by omega, by simp, HA2.out⟩
            case measure => simp [intOf]; omega
      · have hjn : j = n := by omega
        subst hjn
        have HR := Lib.hid (HD.out.trans (HN.out HA.out))
        go_wp2_with fail
        go_ret
        exact ⟨congrArg (fun x => Ending.returned (.int .i64 x)) HR.out.symm, rfl⟩
set_option maxRecDepth 20000 in
set_option maxHeartbeats 1600000 in
theorem refBelow_c (X : Nat → Prop) (b : Nat) (l : List Pr) (k : Int) (same : Bool) (w : World) (h : RL w X b l) :
    Calls Try.prog 23 #[.pointer (some ⟨b, 0, none⟩), .int .i64 k, .bool same] w fun e w' => e = .returned (.int .i64 (belowI l k same)) ∧ w = w' := by
  obtain ⟨a, cap, c0, _, hc1, hc2, hcells⟩ := h.cells
  unfold maxLen at hc2
  have HC := Lib.hid hcells
  have HY := Lib.hid (fun s i (h1 : i < l.length) (hj : ∀ j, i < j → j < l.length → belowP k s (l.getD j pr0) = false) hp => lastTo_yes (belowP k s) l i l.length h1 hj hp)
  have HN := Lib.hid (fun s => lastTo_no (belowP k s) l l.length)
  have HD : Hid (∀ s, belowI l k s = lastTo (belowP k s) l l.length) := Lib.hid fun _ => rfl
  clear h hcells
  generalize l.length = n at *
  have HY0 := HY
  have HN0 := HN
  have HD0 := HD
  clear HY HN HD
  cases same with
  | false =>
    have HY := Lib.hid (HY0.out false)
    have HN := Lib.hid (HN0.out false)
    have HD := Lib.hid (HD0.out false)
    clear HY0 HN0 HD0
    go_enter Try.func23, Try.ntmps23
    go_wp2_with fail
    go_loopw [7] (fun i wr => ∃ j : Nat, i = .int .i64 ((j : Int) - 1) ∧ j ≤ n ∧ w = wr ∧ ∀ t, j ≤ t → t < n → belowP k false (l.getD t pr0) = false) (fun i _ => (intOf i + 1).toNat)
    case atStart => exact ⟨n, rfl, Nat.le_refl _, rfl, fun t h h2 => absurd h2 (by omega)⟩
    case round =>
      obtain ⟨j, hji, hj, rfl, hall⟩ := hrel
      cases j with
      | zero =>
        rw [show (((0 : Nat) : Int) - 1) = -1 by omega] at hji
        subst hji
        have HR := Lib.hid (HD.out.trans (HN.out fun t h => hall t (Nat.zero_le t) h))
        clear hall
        go_wp2_with fail
        go_ret
        exact ⟨congrArg (fun x => Ending.returned (.int .i64 x)) HR.out.symm, rfl⟩
      | succ j =>
        rw [show (((j + 1 : Nat) : Int) - 1) = (j : Int) by omega] at hji
        subst hji
        have h1 : j < n := by omega
        have HA := Lib.hid (fun t (h : j < t) => hall t h)
        clear hall
        obtain ⟨g, _, _, rfl, hx⟩ := HC.out (by omega)
        obtain ⟨q0, q1, q2, _⟩ := hx j h1
        cases d1 : decide ((l.getD j pr0).k < k) with
        | true =>
          have hp : belowP k false (l.getD j pr0) = true := by unfold belowP; rw [d1]; rfl
          have HR := Lib.hid (HD.out.trans (HY.out j h1 HA.out hp))
          generalize (l.getD j pr0).k = x at *
          generalize (l.getD j pr0).v = y at *
          generalize (l.getD j pr0).h = z at *
          clear hx
          go_wp2_with fail
          go_ret
          exact ⟨congrArg (fun x => Ending.returned (.int .i64 x)) HR.out.symm, rfl⟩
        | false =>
          have hp : belowP k false (l.getD j pr0) = false := by unfold belowP; rw [d1]; rfl
          have HA2 : Hid (∀ t, j ≤ t → t < n → belowP k false (l.getD t pr0) = false) := Lib.hid fun t h2 ht => by
            rcases Nat.lt_or_ge j t with h | h
            · exact HA.out t h ht
            · obtain rfl : t = j := by omega
              exact hp
          generalize (l.getD j pr0).k = x at *
          generalize (l.getD j pr0).v = y at *
          generalize (l.getD j pr0).h = z at *
          clear hx
          go_wp2_with fail
          go_roundw
          case rel => exact ⟨j, by simp, by omega, by simp, HA2.out⟩
          case measure => simp [intOf]
  | true =>
    have HY := Lib.hid (HY0.out true)
    have HN := Lib.hid (HN0.out true)
    have HD := Lib.hid (HD0.out true)
    clear HY0 HN0 HD0
    go_enter Try.func23, Try.ntmps23
    go_wp2_with fail
    go_loopw [7] (fun i wr => ∃ j : Nat, i = .int .i64 ((j : Int) - 1) ∧ j ≤ n ∧ w = wr ∧ ∀ t, j ≤ t → t < n → belowP k true (l.getD t pr0) = false) (fun i _ => (intOf i + 1).toNat)
    case atStart => exact ⟨n, rfl, Nat.le_refl _, rfl, fun t h h2 => absurd h2 (by omega)⟩
    case round =>
      obtain ⟨j, hji, hj, rfl, hall⟩ := hrel
      cases j with
      | zero =>
        rw [show (((0 : Nat) : Int) - 1) = -1 by omega] at hji
        subst hji
        have HR := Lib.hid (HD.out.trans (HN.out fun t h => hall t (Nat.zero_le t) h))
        clear hall
        go_wp2_with fail
        go_ret
        exact ⟨congrArg (fun x => Ending.returned (.int .i64 x)) HR.out.symm, rfl⟩
      | succ j =>
        rw [show (((j + 1 : Nat) : Int) - 1) = (j : Int) by omega] at hji
        subst hji
        have h1 : j < n := by omega
        have HA := Lib.hid (fun t (h : j < t) => hall t h)
        clear hall
        obtain ⟨g, _, _, rfl, hx⟩ := HC.out (by omega)
        obtain ⟨q0, q1, q2, _⟩ := hx j h1
        cases d1 : decide ((l.getD j pr0).k < k) with
        | true =>
          have hp : belowP k true (l.getD j pr0) = true := by unfold belowP; rw [d1]; rfl
          have HR := Lib.hid (HD.out.trans (HY.out j h1 HA.out hp))
          generalize (l.getD j pr0).k = x at *
          generalize (l.getD j pr0).v = y at *
          generalize (l.getD j pr0).h = z at *
          clear hx
          go_wp2_with fail
          go_ret
          exact ⟨congrArg (fun x => Ending.returned (.int .i64 x)) HR.out.symm, rfl⟩
        | false =>
          cases d2 : (l.getD j pr0).k == k with
          | true =>
            have hp : belowP k true (l.getD j pr0) = true := by unfold belowP; rw [d1, d2]; rfl
            have HR := Lib.hid (HD.out.trans (HY.out j h1 HA.out hp))
            generalize (l.getD j pr0).k = x at *
            generalize (l.getD j pr0).v = y at *
            generalize (l.getD j pr0).h = z at *
            clear hx
            go_wp2_with fail
            go_ret
            exact ⟨congrArg (fun x => Ending.returned (.int .i64 x)) HR.out.symm, rfl⟩
          | false =>
            have hp : belowP k true (l.getD j pr0) = false := by unfold belowP; rw [d1, d2]; rfl
            have HA2 : Hid (∀ t, j ≤ t → t < n → belowP k true (l.getD t pr0) = false) := Lib.hid fun t h2 ht => by
              rcases Nat.lt_or_ge j t with h | h
              · exact HA.out t h ht
              · obtain rfl : t = j := by omega
                exact hp
            generalize (l.getD j pr0).k = x at *
            generalize (l.getD j pr0).v = y at *
            generalize (l.getD j pr0).h = z at *
            clear hx
            go_wp2_with fail
            go_roundw
            case rel => exact ⟨j, by simp, by omega, by simp, HA2.out⟩
            case measure => simp [intOf]
end Go.Proofs.Ytdnaebbfbkdjoaa
