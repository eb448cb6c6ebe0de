/-
  Contracts of the document's Right, of a key.
-/
import Derived.Test.YtlobnbbndkhcbaaGreatDoorMg05
import Derived.Test.YtlobnbbndkhcbaaGreatDoorMg04
namespace Go.Proofs.YtlobnbbndkhcbaaGreatDoor
set_option linter.unusedVariables false
open Go.RowKit

theorem right_yes (s : ByteArray) (q k : Int) (w : World) (h : Rt s.size q k) :
    Calls Tryz.prog 40 #[.agg #[.string s, .int .i64 q, .int .i64 k]] w (PlainRet (.bool true) w) := by
  obtain ⟨h1, h2, h3, h4, h5, h6⟩ := h
  go_enter Tryz.func40, Tryz.ntmps40
  go_wp2_with fail
  go_ret
  exact ⟨by simp [*], (Fr.refl _ _).alloc _⟩
theorem right_no (s : ByteArray) (q k : Int) (w : World) (h : ¬ Rt s.size q k) :
    Calls Tryz.prog 40 #[.agg #[.string s, .int .i64 q, .int .i64 k]] w (PlainRet (.bool false) w) := by
  unfold Rt at h
  have h' : ¬ 1 ≤ (s.size : Int) ∨ (1 ≤ (s.size : Int) ∧ ¬ (s.size : Int) ≤ 64) ∨ (1 ≤ (s.size : Int) ∧ (s.size : Int) ≤ 64 ∧ ¬ 0 ≤ q) ∨ (1 ≤ (s.size : Int) ∧ (s.size : Int) ≤ 64 ∧ 0 ≤ q ∧ ¬ q ≤ 1099511627776) ∨
    (1 ≤ (s.size : Int) ∧ (s.size : Int) ≤ 64 ∧ 0 ≤ q ∧ q ≤ 1099511627776 ∧ ¬ 1 ≤ k) ∨ (1 ≤ (s.size : Int) ∧ (s.size : Int) ≤ 64 ∧ 0 ≤ q ∧ q ≤ 1099511627776 ∧ 1 ≤ k ∧ ¬ k ≤ 3) := by omega
  clear h
  rcases h' with h1 | ⟨h1, h2⟩ | ⟨h1, h2, h3⟩ | ⟨h1, h2, h3, h4⟩ | ⟨h1, h2, h3, h4, h5⟩ | ⟨h1, h2, h3, h4, h5, h6⟩
  all_goals
    go_enter Tryz.func40, Tryz.ntmps40
    go_wp2_with fail
    go_ret
    exact ⟨by simp [*], (Fr.refl _ _).alloc _⟩

end Go.Proofs.YtlobnbbndkhcbaaGreatDoor
