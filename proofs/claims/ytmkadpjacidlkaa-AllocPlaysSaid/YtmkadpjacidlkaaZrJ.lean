/-
  Layer 7, the program's own device: Down.
-/
import Derived.Test.YtmkadpjacidlkaaZrB
namespace Go.Proofs.Ytmkadpjacidlkaa
set_option linter.unusedVariables false
open Go.RowKit

section
variable {w : World} {d : Nat} {F : Nat → Prop} {m : Dev}
set_option maxHeartbeats 400000 in
theorem down_c (h : Dz w d F m) : Calls Try.prog 14 #[.pointer (some ⟨d, 0, none⟩)] w (Is (.bool m.down) w) := by
  obtain ⟨_, zb, xs, ar, lf, h1, _, _, _⟩ := h
  obtain ⟨c0, c1, c2, c3, c4, c5, c6, c7⟩ := h1.cells
  clear h1
  generalize m.down = D at *
  go_enter Try.func14, Try.ntmps14
  go_wp2_with fail
  go_ret
  exact ⟨rfl, rfl⟩
end
end Go.Proofs.Ytmkadpjacidlkaa
