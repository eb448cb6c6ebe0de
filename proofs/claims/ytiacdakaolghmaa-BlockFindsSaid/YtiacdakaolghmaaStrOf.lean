/-
  A row of the call's own that comes back ('NewRow'); bytes as a text.
-/
import Derived.Test.YtiacdakaolghmaaMem
import Derived.Lib.Hide
import Derived.Handy
import Derived.Laws.BytesArg
namespace Go.Proofs.Ytiacdakaolghmaa
set_option linter.unusedVariables false
open Go.RowKit

/-- A row of the call's own comes back, and nothing that was there has turned. -/
def NewRow (l : List UInt8) (w : World) (e : Ending) (w' : World) : Prop := ∃ v, e = .returned v ∧ Row w' (Gr No w w') v l ∧ Fr No w w'

def strOf (l : List UInt8) : ByteArray := ⟨l.toArray⟩
set_option maxRecDepth 20000 in
theorem conv_rd (w : World) (a : Option Addr) (len cap : Nat) (l : List UInt8) (hl : l.length = len) (hr : Rd w a l) :
    (convert 25 9 (.slice a len cap)).run Try.prog w = .ok (.string (strOf l)) w := by
  subst hl
  by_cases h0 : l = []
  · subst h0
    cases a with
    | none =>
      rw [run_convert_bytes_nil w 25 5 Try.underlying25 Try.underlying5 _ _ 9 Try.underlying9]
      rfl
    | some x =>
      rw [run_convert_bytes_string w 25 9 5 _ _ _ Try.underlying25 Try.underlying5 Try.underlying9]
      exact run_bytesToString (P := Try.prog) w x 0 cap [] (run_loadCells_list (P := Try.prog) w x [] (fun j v hj => by simp at hj))
  · obtain ⟨b, o, rfl, hc⟩ := hr (List.length_pos_iff.mpr h0)
    have h := run_convert_bytes_arg (P := Try.prog) w 25 5 Try.underlying25 Try.underlying5 b o l.length cap (l.map fun x => (x.toNat : Int)) (by simp) (fun i hi => by
      rw [hc i hi]
      simp [List.getD, List.getElem?_eq_getElem hi]) 9 Try.underlying9
    rw [h]
    congr 2
    unfold strOfNums strOf
    congr 2
    rw [List.map_map]
    conv => rhs; rw [← List.map_id l]
    apply List.map_congr_left
    intro x _
    simp
theorem strOf_toList (l : List UInt8) : (strOf l).toList = l := by
  rw [ByteArray.toList_eq]
  rfl
end Go.Proofs.Ytiacdakaolghmaa
