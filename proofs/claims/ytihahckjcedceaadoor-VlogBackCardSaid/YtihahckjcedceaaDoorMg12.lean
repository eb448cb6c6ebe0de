/-
  Texts of layer 14 and of what it stands on, one behind the other.
-/
import Derived.Test.YtihahckjcedceaaDoorMg11

/- Layer 2: the reader's Left and Bad. -/
namespace Go.Proofs.YtihahckjcedceaaDoor
set_option linter.unusedVariables false
open Go.RowKit

set_option maxHeartbeats 400000 in
theorem rleft_c (w : World) (B : Nat) (S : Nat → Prop) (st : St) (hr : Rr w B S st) :
    Calls Tryd.prog 84 #[.pointer (some ⟨B, 0, none⟩)] w fun e w' => e = .returned (.int .i64 (st.1.length : Int)) ∧ w = w' := by
  obtain ⟨a, cap, hat, _⟩ := hr
  have c0 : w.cell? ⟨B, 0, none⟩ = some (.slice a st.1.length cap) := by rw [hat.cell]; rfl
  clear hat
  generalize st.1.length = n at *
  go_enter Tryd.func84, Tryd.ntmps84
  go_wp2_with fail
  go_ret
  exact ⟨rfl, rfl⟩
set_option maxHeartbeats 400000 in
theorem rbad_c (w : World) (B : Nat) (S : Nat → Prop) (st : St) (hr : Rr w B S st) :
    Calls Tryd.prog 85 #[.pointer (some ⟨B, 0, none⟩)] w fun e w' => e = .returned (.bool st.2) ∧ w = w' := by
  obtain ⟨a, cap, hat, _⟩ := hr
  have c0 : w.cell? ⟨B, 1, none⟩ = some (.bool st.2) := by rw [hat.cell]; rfl
  clear hat
  generalize st.2 = b at *
  go_enter Tryd.func85, Tryd.ntmps85
  go_wp2_with fail
  go_ret
  exact ⟨rfl, rfl⟩
end Go.Proofs.YtihahckjcedceaaDoor
