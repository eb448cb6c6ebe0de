/-
  Contracts of layer 3's Sees and Seek.
-/
import Derived.Test.YtggjkpgkmohmdaaIkP
namespace Go.Proofs.Ytggjkpgkmohmdaa
set_option linter.unusedVariables false
open Go.RowKit

theorem sees_c (s : ByteArray) (q k at_ : Int) (w : World) :
    Calls Try.prog 32 #[.agg #[.string s, .int .i64 q, .int .i64 k], .int .i64 at_] w (PlainRet (.bool (decide (q ≤ at_))) w) := by
  go_enter Try.func32, Try.ntmps32
  go_wp2_with fail
  go_ret
  exact ⟨rfl, (Fr.refl _ _).alloc _⟩
theorem seek_c (s : ByteArray) (q : Int) (w : World) :
    Calls Try.prog 28 #[.string s, .int .i64 q] w (PlainRet (.agg #[.string s, .int .i64 q, .int .i64 3]) w) := by
  go_enter Try.func28, Try.ntmps28
  go_wp2_with fail
  refine bodyPost_ret (v := .agg #[.string s, .int .i64 q, .int .i64 3]) (by simp [results, Try.results28, go_sem]) rfl ?_
  exact ⟨rfl, (Fr.refl _ _).alloc _⟩
end Go.Proofs.Ytggjkpgkmohmdaa
