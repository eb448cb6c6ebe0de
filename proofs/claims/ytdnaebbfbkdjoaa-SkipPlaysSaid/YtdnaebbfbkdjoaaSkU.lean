/-
  Layer 5: the laws' own 'found': what is told is what stands at a place. (The function is the document's side's: given.)
-/
import Derived.Test.YtdnaebbfbkdjoaaSkA
namespace Go.Proofs.Ytdnaebbfbkdjoaa
set_option linter.unusedVariables false
open Go.RowKit

set_option maxRecDepth 20000 in
set_option maxHeartbeats 800000 in
theorem found_no (b : Nat) (t : Int) (ht : t < 0) (w : World) :
    Calls Try.prog 21 #[.int .i64 0, .int .i64 0, .bool false, .pointer (some ⟨b, 0, none⟩), .int .i64 t] w fun e w' => e = .returned (.bool true) ∧ w = w' := by
  have d1 : decide (t < 0) = true := decide_eq_true ht
  go_enter Try.func21, Try.ntmps21
  go_wp2_with fail
  go_ret
  exact ⟨rfl, rfl⟩
set_option maxRecDepth 20000 in
set_option maxHeartbeats 800000 in
theorem found_yes (X : Nat → Prop) (b : Nat) (l : List Pr) (j : Nat) (hj : j < l.length) (w : World) (h : RL w X b l) :
    Calls Try.prog 21 #[.int .i64 (l.getD j pr0).k, .int .i64 (l.getD j pr0).v, .bool true, .pointer (some ⟨b, 0, none⟩), .int .i64 (j : Int)] w fun e w' => e = .returned (.bool true) ∧ w = w' := by
  obtain ⟨a, cap, c0, _, hc1, hc2, hcells⟩ := h.cells
  unfold maxLen at hc2
  obtain ⟨g, _, _, rfl, hx⟩ := hcells (by omega)
  obtain ⟨q0, q1, q2, _⟩ := hx j hj
  clear h hcells hx
  generalize l.length = n at *
  generalize (l.getD j pr0).k = x at *
  generalize (l.getD j pr0).v = y at *
  generalize (l.getD j pr0).h = z at *
  have d1 : decide ((j : Int) < 0) = false := by rw [decide_eq_false_iff_not]; omega
  go_enter Try.func21, Try.ntmps21
  go_wp2_with fail
  go_ret
  exact ⟨rfl, rfl⟩
end Go.Proofs.Ytdnaebbfbkdjoaa
