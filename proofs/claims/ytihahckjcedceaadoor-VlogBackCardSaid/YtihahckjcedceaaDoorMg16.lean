/-
  Texts of layer 14 and of what it stands on, one behind the other.
-/
import Derived.Test.YtihahckjcedceaaDoorMg12
import Derived.Test.YtihahckjcedceaaDoorMg13

/- Layer 2: the reader's Raw. -/
namespace Go.Proofs.YtihahckjcedceaaDoor
set_option linter.unusedVariables false
open Go.RowKit

set_option maxHeartbeats 400000 in
theorem rraw_c (n : Int) (w : World) (B : Nat) (S : Nat → Prop) (st : St) (hr : Rr w B S st) (hn : n ≤ 9223372036854775807) :
    Calls Tryd.prog 83 #[.pointer (some ⟨B, 0, none⟩), .int .i64 n] w (SliceRet B S (takeS 0 n st).1 (takeS 0 n st).2 w) := by
  have HC : Hid (Calls Tryd.prog 63 #[.pointer (some ⟨B, 0, none⟩), .int .i64 0, .int .i64 n] w (SliceRet B S (takeS 0 n st).1 (takeS 0 n st).2 w)) := by
    obtain ⟨l, bad⟩ := st
    by_cases h : bad = true ∨ n < 0
    · have e : takeS 0 n (l, bad) = ([], (l, true)) := by
        unfold takeS
        rw [if_pos (h.elim .inl fun h => .inr (.inl h))]
      rw [e]
      exact Lib.hid (take_bad 0 n w B S l bad hr h)
    · have hb : bad = false := by simpa using fun hb => h (.inl hb)
      subst hb
      exact Lib.hid (take_c 0 n w B S l hr (by simp at h; omega) hn (Nat.zero_le _))
  clear hr
  generalize takeS 0 n st = r at HC
  go_enter Tryd.func83, Tryd.ntmps83
  go_wp2_with fail
  refine (show Calls _ _ _ _ _ from HC.out).mono ?_
  rintro e w' ⟨a, cap, rfl, h1, h2, h3⟩
  have HN : Hid (SliceRet B S r.1 r.2 w (.returned (.slice a r.1.length cap)) w') := Lib.hid ⟨a, cap, rfl, h1, h2, h3⟩
  clear h1 h2 h3
  go_wp2_with fail
  go_ret
  exact HN.out

end Go.Proofs.YtihahckjcedceaaDoor
