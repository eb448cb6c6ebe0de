/-
  The table of package sum as each row lists it: its sixteen cells; and a world for the rows' witnesses in which they are laid.
-/
import Derived.Test.YtcekgalppbfnhaaDoorCards
import Derived.Test.YtcekgalppbfnhaaDoorTie
import Derived.Test.YtcekgalppbfnhaaDoorSum
import Derived.Test.YtcekgalppbfnhaaDoorOpenB
import Derived.Deep.DeepHandedRow
namespace Go.Proofs.YtcekgalppbfnhaaDoor
set_option linter.unusedVariables false
open Go.ChangeShapes Go.WideShapes Go.ChangeAt Go.RowKit

theorem own : ownKnob Tryd.prog.godebug = none := by kernel_rfl
theorem laidOut : laidOutB Tryd.prog = true := by kernel_rfl
theorem gTab : Tryd.prog.globalNamed "tithebarn/sum.nibbles" = some 0 := by kernel_rfl
theorem gTabType : (Tryd.prog.globals[0]?).map (·.type) = some 107 := by kernel_rfl
theorem cellsTab : Tryd.prog.cellsOf 107 = 16 := by kernel_rfl
theorem cellsU32 : Tryd.prog.cellsOf 67 = 1 := by kernel_rfl

theorem table {W : World} (h : laidMetH Tryd.prog [("tithebarn/sum.nibbles", Rows.laid_tithebarn_sum_nibbles)] W) : Tab W := by
  have h1 : Lib.TabIs Tryd.prog W "tithebarn/sum.nibbles" .u32 (Crc.nib.map fun (n : Nat) => (n : Int)) :=
    Lib.tabIs_of_head (rest := []) gTab gTabType Tryd.underlying107 Tryd.underlying67 cellsU32 cellsTab h
  intro i hi
  have h2 := h1.cell gTab i (by simpa [Crc.nib] using hi)
  rw [h2]
  have h3 : ∀ i : Fin 16, (Crc.nib.map fun (n : Nat) => (n : Int)).getD i.val 0 = ((Crc.nibAt i.val : Nat) : Int) := by decide
  rw [h3 ⟨i, hi⟩]

/-- A WORLD FOR THE WITNESSES: the settled one, the table holding what its initialiser lays. -/
noncomputable def laidWorld (os : Os) : World :=
  { World.holding Tryd.prog os ⟨#[], #[], []⟩ with heap := (World.holding Tryd.prog os ⟨#[], #[], []⟩).heap.modify 0 fun
      | .cells _ t frozen => .cells #[.int .u32 0, .int .u32 274646895, .int .u32 549293790, .int .u32 820201905, .int .u32 1098587580, .int .u32 1361435347, .int .u32 1640403810, .int .u32 1905808397, .int .u32 2197175160, .int .u32 2460548119, .int .u32 2722870694, .int .u32 2987750089, .int .u32 3280807620, .int .u32 3553878443, .int .u32 3811616794, .int .u32 4084100981] t frozen
      | o => o }
end Go.Proofs.YtcekgalppbfnhaaDoor
