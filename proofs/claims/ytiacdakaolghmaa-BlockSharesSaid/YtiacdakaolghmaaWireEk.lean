/-
  Layer 2: the reader's Left and Bad.
-/
import Derived.Test.YtiacdakaolghmaaWireEa
namespace Go.Proofs.Ytiacdakaolghmaa
set_option linter.unusedVariables false
open Go.RowKit

set_option maxHeartbeats 400000 in
theorem rleft_c (w : World) (B : Nat) (S : Nat → Prop) (st : St) (hr : Rr w B S st) :
    Calls Try.prog 53 #[.pointer (some ⟨B, 0, none⟩)] w fun e w' => e = .returned (.int .i64 (st.1.length : Int)) ∧ w = w' := by
  obtain ⟨a, cap, hat, _⟩ := hr
  have c0 : w.cell? ⟨B, 0, none⟩ = some (.slice a st.1.length cap) := by rw [hat.cell]; rfl
  clear hat
  generalize st.1.length = n at *
  go_enter Try.func53, Try.ntmps53
  go_wp2_with fail
  go_ret
  exact ⟨rfl, rfl⟩
set_option maxHeartbeats 400000 in
theorem rbad_c (w : World) (B : Nat) (S : Nat → Prop) (st : St) (hr : Rr w B S st) :
    Calls Try.prog 54 #[.pointer (some ⟨B, 0, none⟩)] w fun e w' => e = .returned (.bool st.2) ∧ w = w' := by
  obtain ⟨a, cap, hat, _⟩ := hr
  have c0 : w.cell? ⟨B, 1, none⟩ = some (.bool st.2) := by rw [hat.cell]; rfl
  clear hat
  generalize st.2 = b at *
  go_enter Try.func54, Try.ntmps54
  go_wp2_with fail
  go_ret
  exact ⟨rfl, rfl⟩
end Go.Proofs.Ytiacdakaolghmaa
