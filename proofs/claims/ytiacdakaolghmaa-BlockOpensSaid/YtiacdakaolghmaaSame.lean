/-
  The document's Same.
-/
import Derived.Test.YtiacdakaolghmaaStrOf
namespace Go.Proofs.Ytiacdakaolghmaa
set_option linter.unusedVariables false
open Go.RowKit

set_option maxHeartbeats 400000 in
theorem same_c (a a' : Option Addr) (len cap len' cap' : Nat) (l l' : List UInt8) (w : World) (hl : l.length = len) (hl' : l'.length = len') (hr : Rd w a l) (hr' : Rd w a' l') :
    Calls Try.prog 14 #[.slice a len cap, .slice a' len' cap'] w fun e w' => e = .returned (.bool (l == l')) ∧ w = w' := by
  have k1 := conv_rd w a len cap l hl hr
  have k2 := conv_rd w a' len' cap' l' hl' hr'
  have t1 := strOf_toList l
  have t2 := strOf_toList l'
  clear hl hl' hr hr'
  go_enter Try.func14, Try.ntmps14
  go_wp2_with fail
  go_ret
  exact ⟨rfl, rfl⟩
theorem same_yes {a a' : Option Addr} {len cap len' cap' : Nat} {l l' : List UInt8} {w : World} (hl : l.length = len) (hl' : l'.length = len') (hr : Rd w a l) (hr' : Rd w a' l') (h : l = l') :
    Calls Try.prog 14 #[.slice a len cap, .slice a' len' cap'] w fun e w' => e = .returned (.bool true) ∧ w = w' := by
  have := same_c a a' len cap len' cap' l l' w hl hl' hr hr'
  rwa [show (l == l') = true by rw [h]; exact beq_self_eq_true l'] at this
end Go.Proofs.Ytiacdakaolghmaa
