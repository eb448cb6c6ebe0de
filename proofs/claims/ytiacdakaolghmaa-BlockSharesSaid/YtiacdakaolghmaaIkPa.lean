/-
  A plain value that comes back; a text's bytes. No function is named.
-/
import Derived.Test.YtiacdakaolghmaaMem
import Derived.Test.YtiacdakaolghmaaIkN
import Derived.Lib.Hide
import Derived.Handy
namespace Go.Proofs.Ytiacdakaolghmaa
set_option linter.unusedVariables false
open Go.RowKit

/-- A plain value comes back, and nothing that was there has turned. -/
def PlainRet (v : Value) (w : World) (e : Ending) (w' : World) : Prop := e = .returned v ∧ Fr No w w'

theorem ba_len (s : ByteArray) : s.data.toList.length = s.size := Array.length_toList
theorem ba_getD (s : ByteArray) (k : Nat) (h : k < s.size) : s.data.toList.getD k 0 = s[k] := by
  have h' : k < s.data.toList.length := by rw [ba_len]; exact h
  rw [List.getD_eq_getElem?_getD, List.getElem?_eq_getElem h']
  rfl
end Go.Proofs.Ytiacdakaolghmaa
