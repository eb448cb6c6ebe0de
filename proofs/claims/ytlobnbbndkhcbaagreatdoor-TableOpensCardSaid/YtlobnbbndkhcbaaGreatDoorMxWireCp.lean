/-
  The document's Copy.
-/
import Derived.Test.YtlobnbbndkhcbaaGreatDoorMg05
namespace Go.Proofs.YtlobnbbndkhcbaaGreatDoor
set_option linter.unusedVariables false
open Go.RowKit

set_option maxHeartbeats 400000 in
theorem copyRef_c (a : Option Addr) (len cap : Nat) (l : List UInt8) (w : World) (hl : l.length = len) (hm : len ≤ 140737488355328) (hr : Rd w a l) :
    Calls Tryz.prog 29 #[.slice a len cap] w (NewRow l w) := by
  obtain ⟨v', W, hrun, hrow, hfr⟩ := (Row.nil w No).append a len cap l hl hr (by simp; omega)
  have HRUN := Lib.hid hrun
  have HN : Hid (NewRow l w (.returned v') W) := Lib.hid ⟨_, rfl, hrow, hfr⟩
  clear hrun hrow hfr hl hr
  go_enter Tryz.func29, Tryz.ntmps29
  go_wp2_with (at_builtin; refine wpList_append_run rfl _ _ 27 rfl rfl rfl HRUN.out ?_)
  go_ret
  exact HN.out
end Go.Proofs.YtlobnbbndkhcbaaGreatDoor
