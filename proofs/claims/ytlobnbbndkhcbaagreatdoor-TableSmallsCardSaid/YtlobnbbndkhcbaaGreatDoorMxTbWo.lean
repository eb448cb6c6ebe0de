/-
  Layer 13: what a frame asks of a walk.
-/
import Derived.Test.YtlobnbbndkhcbaaGreatDoorMg25
namespace Go.Proofs.YtlobnbbndkhcbaaGreatDoor
set_option linter.unusedVariables false
open Go.RowKit

theorem plain_post {w : World} {e : Ending} {w' : World} (h : PlainRet (.bool true) w e w') : e = .returned (.bool true) ∧ Below w.heap.size w w' := ⟨h.1, h.2.below (Nat.le_refl _) (fun _ h => h.elim)⟩
end Go.Proofs.YtlobnbbndkhcbaaGreatDoor
