/-
  Contracts of layer 2's writer: a single byte.
-/
import Derived.Test.YtidfjcaajejfoaaWireD
namespace Go.Proofs.Ytidfjcaajejfoaa
set_option linter.unusedVariables false
open Go.RowKit

set_option maxHeartbeats 400000 in
theorem wbyte_c (c : UInt8) (w : World) (B : Nat) (S : Nat → Prop) (p : List UInt8) (bad : Bool) (hw : Wr w B S p bad) (hm : p.length < 140737488355328) :
    Calls Try.prog 37 #[.pointer (some ⟨B, 0, none⟩), .int .u8 (c.toNat : Int)] w (WrRet B S (p ++ [c]) bad w) := by
  obtain ⟨v, hat, hrow, hB, hS⟩ := hw
  obtain ⟨v', W, hrun, hrow', hfr⟩ := hrow.push hS c hm
  obtain ⟨a', n', cap', rfl⟩ := hrow'.shape
  obtain ⟨c1, c2, c3, c4⟩ := Wr.put (w0 := w) (p := p) hat hB hS hrow' hfr
  have HN : Hid (WrRet B S (p ++ [c]) bad w (.returned (.pointer (some ⟨B, 0, none⟩))) (W.setCell ⟨B, 0, none⟩ _)) := Lib.hid ⟨rfl, c3, c4⟩
  have c0 : w.cell? ⟨B, 0, none⟩ = some v := by rw [hat.cell]; rfl
  have hc := c.toNat_lt
  have HRUN := Lib.hid hrun
  clear hrun hrow hrow' hfr hat hB hS c3 c4
  go_enter Try.func37, Try.ntmps37
  go_wp2_with (at_builtin; refine wpList_append_run rfl _ _ 35 rfl rfl rfl HRUN.out ?_)
  go_ret
  exact HN.out
end Go.Proofs.Ytidfjcaajejfoaa
