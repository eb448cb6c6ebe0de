/-
  Layer 7, the program's own device: Done.
-/
import Derived.Test.YtkoebafalbcnbaaZrB
namespace Go.Proofs.Ytkoebafalbcnbaa
set_option linter.unusedVariables false
open Go.RowKit

set_option maxHeartbeats 400000 in
theorem done_c {w : World} {d : Nat} {F : Nat → Prop} {m : Dev} (h : Dz w d F m) : Calls Try.prog 24 #[.pointer (some ⟨d, 0, none⟩)] w (Is (.int .i64 (m.done : Int)) w) := by
  obtain ⟨_, zb, xs, ar, lf, h1, _, _, _⟩ := h
  obtain ⟨c0, c1, c2, c3, c4, c5, c6, c7⟩ := h1.cells
  clear h1
  generalize m.done = D at *
  go_enter Try.func24, Try.ntmps24
  go_wp2_with fail
  go_ret
  exact ⟨rfl, rfl⟩
end Go.Proofs.Ytkoebafalbcnbaa
