/-
  Layer 3: a plain value that comes back; Check of a key.
-/
import Derived.Test.YtggjkpgkmohmdaaMem
import Derived.Test.YtggjkpgkmohmdaaIkN
import Derived.Lib.Hide
import Derived.Handy
namespace Go.Proofs.Ytggjkpgkmohmdaa
set_option linter.unusedVariables false
open Go.RowKit

/-- A plain value comes back, and nothing that was there has turned. -/
def PlainRet (v : Value) (w : World) (e : Ending) (w' : World) : Prop := e = .returned v ∧ Fr No w w'

theorem check_yes (s : ByteArray) (q k : Int) (w : World) (h : Rt s.size q k) :
    Calls Try.prog 41 #[.agg #[.string s, .int .i64 q, .int .i64 k]] w (PlainRet (.int .i64 0) w) := by
  obtain ⟨h1, h2, h3, h4, h5, h6⟩ := h
  go_enter Try.func41, Try.ntmps41
  go_wp2_with fail
  go_ret
  exact ⟨rfl, (Fr.refl _ _).alloc _⟩
theorem check_no (s : ByteArray) (q k : Int) (w : World) (h : ¬ Rt s.size q k) :
    Calls Try.prog 41 #[.agg #[.string s, .int .i64 q, .int .i64 k]] w (PlainRet (.int .i64 30) w) := by
  unfold Rt at h
  have h' : ¬ 1 ≤ (s.size : Int) ∨ (1 ≤ (s.size : Int) ∧ ¬ (s.size : Int) ≤ 64) ∨ (1 ≤ (s.size : Int) ∧ (s.size : Int) ≤ 64 ∧ ¬ 0 ≤ q) ∨ (1 ≤ (s.size : Int) ∧ (s.size : Int) ≤ 64 ∧ 0 ≤ q ∧ ¬ q ≤ 1099511627776) ∨
    (1 ≤ (s.size : Int) ∧ (s.size : Int) ≤ 64 ∧ 0 ≤ q ∧ q ≤ 1099511627776 ∧ ¬ 1 ≤ k) ∨ (1 ≤ (s.size : Int) ∧ (s.size : Int) ≤ 64 ∧ 0 ≤ q ∧ q ≤ 1099511627776 ∧ 1 ≤ k ∧ ¬ k ≤ 3) := by omega
  clear h
  rcases h' with h1 | ⟨h1, h2⟩ | ⟨h1, h2, h3⟩ | ⟨h1, h2, h3, h4⟩ | ⟨h1, h2, h3, h4, h5⟩ | ⟨h1, h2, h3, h4, h5, h6⟩
  all_goals
    go_enter Try.func41, Try.ntmps41
    go_wp2_with fail
    go_ret
    exact ⟨rfl, (Fr.refl _ _).alloc _⟩

theorem ba_len (s : ByteArray) : s.data.toList.length = s.size := Array.length_toList
theorem ba_getD (s : ByteArray) (k : Nat) (h : k < s.size) : s.data.toList.getD k 0 = s[k] := by
  have h' : k < s.data.toList.length := by rw [ba_len]; exact h
  rw [List.getD_eq_getElem?_getD, List.getElem?_eq_getElem h']
  rfl
end Go.Proofs.Ytggjkpgkmohmdaa
