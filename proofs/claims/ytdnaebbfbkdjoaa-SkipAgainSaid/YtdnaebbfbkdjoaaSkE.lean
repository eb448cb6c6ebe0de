/-
  Layer 5: the program's own Height of a draw: what the document says.
-/
import Derived.Test.YtdnaebbfbkdjoaaSkD
namespace Go.Proofs.Ytdnaebbfbkdjoaa
set_option linter.unusedVariables false
open Go.RowKit

theorem u64_and3 (n : Int) : bits .and .u64 n 3 = n % 4 := by
  have h3 : (BitVec.ofInt 64 3).toNat = 2 ^ 2 - 1 := by decide
  have key : (BitVec.ofInt 64 n &&& BitVec.ofInt 64 3).toNat = (n % ((2 ^ 64 : Nat) : Int)).toNat % 2 ^ 2 := by
    rw [BitVec.toNat_and, BitVec.toNat_ofInt, h3, Nat.and_two_pow_sub_one_eq_mod]
  show IntKind.u64.wrap ((BitVec.ofInt 64 n &&& BitVec.ofInt 64 3).toNat : Nat) = n % 4
  rw [key, IntKind.wrap_u64]
  omega
theorem u64_and3_yes (d : Int) (h : d % 4 = 3) : (bits .and .u64 d 3 == 3) = true := by rw [u64_and3, h]; rfl
theorem u64_and3_no (d : Int) (h : ¬ d % 4 = 3) : (bits .and .u64 d 3 == 3) = false := by rw [u64_and3]; exact beq_eq_false_iff_ne.2 h
/-- The draw's bits as a number, from the (2h-2)th on. -/
def pairsN (d : Int) (h : Nat) : Int := d % 18446744073709551616 / 4 ^ (h - 1)
theorem pairsN_succ (d : Int) (h : Nat) (h1 : 1 ≤ h) : pairsN d h / 4 = pairsN d (h + 1) := by
  unfold pairsN
  rw [Int.ediv_ediv_of_nonneg (Int.pow_nonneg (by omega)), show h + 1 - 1 = (h - 1) + 1 by omega, Int.pow_succ]
theorem pairsN_le (d : Int) (h : Nat) : 0 ≤ pairsN d h ∧ pairsN d h < 18446744073709551616 := by
  unfold pairsN
  have h1 : 0 ≤ d % 18446744073709551616 := Int.emod_nonneg _ (by omega)
  have h2 : d % 18446744073709551616 < 18446744073709551616 := Int.emod_lt_of_pos _ (by omega)
  have hp : (0 : Int) < 4 ^ (h - 1) := Int.pow_pos (by omega)
  exact ⟨Int.ediv_nonneg h1 (by omega), Int.lt_of_le_of_lt (Int.ediv_le_self _ h1) h2⟩
theorem pairsN_mod (d : Int) (h : Nat) (h1 : 1 ≤ h) (h2 : h ≤ 12) : pairsN d h % 4 = d / 4 ^ (h - 1) % 4 := by
  unfold pairsN
  rcases (show h = 1 ∨ h = 2 ∨ h = 3 ∨ h = 4 ∨ h = 5 ∨ h = 6 ∨ h = 7 ∨ h = 8 ∨ h = 9 ∨ h = 10 ∨ h = 11 ∨ h = 12 by omega) with rfl | rfl | rfl | rfl | rfl | rfl | rfl | rfl | rfl | rfl | rfl | rfl <;> simp <;> omega
set_option maxRecDepth 20000 in
set_option maxHeartbeats 1600000 in
theorem height0_c (d : Int) (w : World) (h0 : -9223372036854775808 ≤ d) (h1 : d ≤ 9223372036854775807) :
    Calls Try.prog 32 #[.int .i64 d] w fun e w' => e = .returned (.int .i64 (hN d : Int)) ∧ w = w' := by
  have HP1 : Hid (d % 18446744073709551616 = pairsN d 1) := Lib.hid (by unfold pairsN; simp)
  go_enter Try.func32, Try.ntmps32
  go_wp2_with fail
  go_loopw [3, 4] (fun i p wr => ∃ (h : Nat) (pp : Int), i = .int .i64 h ∧ p = .int .u64 pp ∧ 0 ≤ pp ∧ pp < 18446744073709551616 ∧ pp = pairsN d h ∧ 1 ≤ h ∧ h ≤ 12 ∧ w = wr ∧ hN d = hFrom d h (12 - h)) (fun i _ _ => 12 - (intOf i).toNat)
  case atStart => exact ⟨1, pairsN d 1, rfl, by rw [← HP1.out]; rfl, (pairsN_le d 1).1, (pairsN_le d 1).2, rfl, by omega, by omega, rfl, rfl⟩
  case round =>
    obtain ⟨h, pp, rfl, rfl, hp0, hp1, hpp, hh1, hh2, rfl, hc⟩ := hrel
    have HC := Lib.hid hc
    have HPP := Lib.hid hpp
    clear hc hpp
    by_cases hb12 : h = 12
    · subst hb12
      go_wp2_with fail
      go_ret
      exact ⟨by rw [HC.out]; rfl, rfl⟩
    · have d0 : decide ((h : Int) < 12) = true := by rw [decide_eq_true_eq]; omega
      have e4 := pairsN_mod d h hh1 hh2
      rw [← HPP.out] at e4
      have HF : Hid (hFrom d h (12 - h) = hFrom d h ((11 - h) + 1)) := Lib.hid (by rw [show 12 - h = (11 - h) + 1 by omega])
      by_cases hb : pp % 4 = 3
      · have H2 := Lib.hid ((HC.out.trans HF.out).trans (hFrom_at d h (11 - h) (by rw [← e4]; exact hb)))
        have hy := u64_and3_yes _ hb
        have HN : Hid (pp / 4 = pairsN d (h + 1)) := Lib.hid (by rw [HPP.out]; exact pairsN_succ d h hh1)
        clear hb e4
        go_wp2_with fail
        go_roundw
        case rel => exact ⟨h + 1, pp / 4, by simp, rfl, by omega, by omega, HN.out, by omega, by omega, by simp, by rw [H2.out, show 12 - (h + 1) = 11 - h by omega]⟩
        case measure => simp [intOf]; omega
      · have H2 := Lib.hid ((HC.out.trans HF.out).trans (hFrom_no d h (11 - h) (by rw [← e4]; exact hb)))
        have hy := u64_and3_no _ hb
        clear hb e4
        go_wp2_with fail
        go_ret
        exact ⟨by rw [H2.out]; rfl, rfl⟩
end Go.Proofs.Ytdnaebbfbkdjoaa
