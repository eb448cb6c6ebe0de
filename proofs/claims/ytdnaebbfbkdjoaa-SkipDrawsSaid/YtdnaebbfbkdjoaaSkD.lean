/-
  Layer 5: a draw's height; the contract of the document's Height.
-/
import Derived.Test.YtdnaebbfbkdjoaaMemA
import Derived.Lib.Hide
import Derived.Handy
import Derived.Laws.BitsAllLaws
namespace Go.Proofs.Ytdnaebbfbkdjoaa
set_option linter.unusedVariables false
open Go.RowKit

/-- From height h on, so many steps at most. -/
def hFrom (d : Int) : Nat → Nat → Nat
  | h, 0 => h
  | h, f + 1 => if d / 4 ^ (h - 1) % 4 = 3 then hFrom d (h + 1) f else h
def hN (d : Int) : Nat := hFrom d 1 11
theorem hFrom_le (d : Int) : ∀ f h, hFrom d h f ≤ h + f ∧ h ≤ hFrom d h f := by
  intro f
  induction f with
  | zero => intro h; exact ⟨Nat.le_refl _, Nat.le_refl _⟩
  | succ f ih =>
    intro h
    have := ih (h + 1)
    show (if d / 4 ^ (h - 1) % 4 = 3 then hFrom d (h + 1) f else h) ≤ _ ∧ _ ≤ (if d / 4 ^ (h - 1) % 4 = 3 then hFrom d (h + 1) f else h)
    split <;> omega
theorem hFrom_at (d : Int) (h f : Nat) (e : d / 4 ^ (h - 1) % 4 = 3) : hFrom d h (f + 1) = hFrom d (h + 1) f := if_pos e
theorem hFrom_no (d : Int) (h f : Nat) (e : ¬ d / 4 ^ (h - 1) % 4 = 3) : hFrom d h (f + 1) = h := if_neg e
theorem i64_and3 (n : Int) : bits .and .i64 n 3 = n % 4 := by
  have h3 : (BitVec.ofInt 64 3).toNat = 2 ^ 2 - 1 := by decide
  have key : (BitVec.ofInt 64 n &&& BitVec.ofInt 64 3).toNat = (n % ((2 ^ 64 : Nat) : Int)).toNat % 2 ^ 2 := by
    rw [BitVec.toNat_and, BitVec.toNat_ofInt, h3, Nat.and_two_pow_sub_one_eq_mod]
  show IntKind.i64.wrap ((BitVec.ofInt 64 n &&& BitVec.ofInt 64 3).toNat : Nat) = n % 4
  rw [key, IntKind.wrap_i64]
  omega
theorem and3_yes (d : Int) (h : d % 4 = 3) : (bits .and .i64 d 3 == 3) = true := by rw [i64_and3, h]; rfl
theorem and3_no (d : Int) (h : ¬ d % 4 = 3) : (bits .and .i64 d 3 == 3) = false := by rw [i64_and3]; exact beq_eq_false_iff_ne.2 h
set_option maxRecDepth 20000 in
set_option maxHeartbeats 1600000 in
theorem refHeight_c (d : Int) (w : World) (h0 : -9223372036854775808 ≤ d) (h1 : d ≤ 9223372036854775807) :
    Calls Try.prog 33 #[.int .i64 d] w fun e w' => e = .returned (.int .i64 (hN d : Int)) ∧ w = w' := by
  go_enter Try.func33, Try.ntmps33
  go_wp2_with fail
  go_loopw [3] (fun i wr => ∃ h : Nat, i = .int .i64 h ∧ 1 ≤ h ∧ h ≤ 12 ∧ w = wr ∧ hN d = hFrom d h (12 - h)) (fun i _ => 12 - (intOf i).toNat)
  case atStart => exact ⟨1, rfl, by omega, by omega, rfl, rfl⟩
  case round =>
    obtain ⟨h, rfl, hh1, hh2, rfl, hc⟩ := hrel
    have HC := Lib.hid hc
    clear hc
    rcases (show h = 1 ∨ h = 2 ∨ h = 3 ∨ h = 4 ∨ h = 5 ∨ h = 6 ∨ h = 7 ∨ h = 8 ∨ h = 9 ∨ h = 10 ∨ h = 11 ∨ h = 12 by omega) with rfl | rfl | rfl | rfl | rfl | rfl | rfl | rfl | rfl | rfl | rfl | rfl
    · have e4 : d / 4 ^ (1 - 1) = d := by simp
      by_cases hb : d % 4 = 3
      · have H2 := Lib.hid (HC.out.trans (hFrom_at d 1 10 (by rw [e4]; exact hb)))
        have hy := and3_yes _ hb
        clear hb e4
        go_wp2_with fail
        go_roundw
        case rel => exact ⟨2, rfl, by omega, by omega, by simp, H2.out⟩
        case measure => simp [intOf]
      · have H2 := Lib.hid (HC.out.trans (hFrom_no d 1 10 (by rw [e4]; exact hb)))
        have hy := and3_no _ hb
        clear hb e4
        go_wp2_with fail
        go_ret
        exact ⟨by rw [H2.out]; rfl, rfl⟩
    · have e4 : d / 4 ^ (2 - 1) = d / 4 := by rfl
      by_cases hb : (d / 4) % 4 = 3
      · have H2 := Lib.hid (HC.out.trans (hFrom_at d 2 9 (by rw [e4]; exact hb)))
        have hy := and3_yes _ hb
        clear hb e4
        go_wp2_with fail
        go_roundw
        case rel => exact ⟨3, rfl, by omega, by omega, by simp, H2.out⟩
        case measure => simp [intOf]
      · have H2 := Lib.hid (HC.out.trans (hFrom_no d 2 9 (by rw [e4]; exact hb)))
        have hy := and3_no _ hb
        clear hb e4
        go_wp2_with fail
        go_ret
        exact ⟨by rw [H2.out]; rfl, rfl⟩
    · have e4 : d / 4 ^ (3 - 1) = d / 16 := by rfl
      by_cases hb : (d / 16) % 4 = 3
      · have H2 := Lib.hid (HC.out.trans (hFrom_at d 3 8 (by rw [e4]; exact hb)))
        have hy := and3_yes _ hb
        clear hb e4
        go_wp2_with fail
        go_roundw
        case rel => exact ⟨4, rfl, by omega, by omega, by simp, H2.out⟩
        case measure => simp [intOf]
      · have H2 := Lib.hid (HC.out.trans (hFrom_no d 3 8 (by rw [e4]; exact hb)))
        have hy := and3_no _ hb
        clear hb e4
        go_wp2_with fail
        go_ret
        exact ⟨by rw [H2.out]; rfl, rfl⟩
    · have e4 : d / 4 ^ (4 - 1) = d / 64 := by rfl
      by_cases hb : (d / 64) % 4 = 3
      · have H2 := Lib.hid (HC.out.trans (hFrom_at d 4 7 (by rw [e4]; exact hb)))
        have hy := and3_yes _ hb
        clear hb e4
        go_wp2_with fail
        go_roundw
        case rel => exact ⟨5, rfl, by omega, by omega, by simp, H2.out⟩
        case measure => simp [intOf]
      · have H2 := Lib.hid (HC.out.trans (hFrom_no d 4 7 (by rw [e4]; exact hb)))
        have hy := and3_no _ hb
        clear hb e4
        go_wp2_with fail
        go_ret
        exact ⟨by rw [H2.out]; rfl, rfl⟩
    · have e4 : d / 4 ^ (5 - 1) = d / 256 := by rfl
      by_cases hb : (d / 256) % 4 = 3
      · have H2 := Lib.hid (HC.out.trans (hFrom_at d 5 6 (by rw [e4]; exact hb)))
        have hy := and3_yes _ hb
        clear hb e4
        go_wp2_with fail
        go_roundw
        case rel => exact ⟨6, rfl, by omega, by omega, by simp, H2.out⟩
        case measure => simp [intOf]
      · have H2 := Lib.hid (HC.out.trans (hFrom_no d 5 6 (by rw [e4]; exact hb)))
        have hy := and3_no _ hb
        clear hb e4
        go_wp2_with fail
        go_ret
        exact ⟨by rw [H2.out]; rfl, rfl⟩
    · have e4 : d / 4 ^ (6 - 1) = d / 1024 := by rfl
      by_cases hb : (d / 1024) % 4 = 3
      · have H2 := Lib.hid (HC.out.trans (hFrom_at d 6 5 (by rw [e4]; exact hb)))
        have hy := and3_yes _ hb
        clear hb e4
        go_wp2_with fail
        go_roundw
        case rel => exact ⟨7, rfl, by omega, by omega, by simp, H2.out⟩
        case measure => simp [intOf]
      · have H2 := Lib.hid (HC.out.trans (hFrom_no d 6 5 (by rw [e4]; exact hb)))
        have hy := and3_no _ hb
        clear hb e4
        go_wp2_with fail
        go_ret
        exact ⟨by rw [H2.out]; rfl, rfl⟩
    · have e4 : d / 4 ^ (7 - 1) = d / 4096 := by rfl
      by_cases hb : (d / 4096) % 4 = 3
      · have H2 := Lib.hid (HC.out.trans (hFrom_at d 7 4 (by rw [e4]; exact hb)))
        have hy := and3_yes _ hb
        clear hb e4
        go_wp2_with fail
        go_roundw
        case rel => exact ⟨8, rfl, by omega, by omega, by simp, H2.out⟩
        case measure => simp [intOf]
      · have H2 := Lib.hid (HC.out.trans (hFrom_no d 7 4 (by rw [e4]; exact hb)))
        have hy := and3_no _ hb
        clear hb e4
        go_wp2_with fail
        go_ret
        exact ⟨by rw [H2.out]; rfl, rfl⟩
    · have e4 : d / 4 ^ (8 - 1) = d / 16384 := by rfl
      by_cases hb : (d / 16384) % 4 = 3
      · have H2 := Lib.hid (HC.out.trans (hFrom_at d 8 3 (by rw [e4]; exact hb)))
        have hy := and3_yes _ hb
        clear hb e4
        go_wp2_with fail
        go_roundw
        case rel => exact ⟨9, rfl, by omega, by omega, by simp, H2.out⟩
        case measure => simp [intOf]
      · have H2 := Lib.hid (HC.out.trans (hFrom_no d 8 3 (by rw [e4]; exact hb)))
        have hy := and3_no _ hb
        clear hb e4
        go_wp2_with fail
        go_ret
        exact ⟨by rw [H2.out]; rfl, rfl⟩
    · have e4 : d / 4 ^ (9 - 1) = d / 65536 := by rfl
      by_cases hb : (d / 65536) % 4 = 3
      · have H2 := Lib.hid (HC.out.trans (hFrom_at d 9 2 (by rw [e4]; exact hb)))
        have hy := and3_yes _ hb
        clear hb e4
        go_wp2_with fail
        go_roundw
        case rel => exact ⟨10, rfl, by omega, by omega, by simp, H2.out⟩
        case measure => simp [intOf]
      · have H2 := Lib.hid (HC.out.trans (hFrom_no d 9 2 (by rw [e4]; exact hb)))
        have hy := and3_no _ hb
        clear hb e4
        go_wp2_with fail
        go_ret
        exact ⟨by rw [H2.out]; rfl, rfl⟩
    · have e4 : d / 4 ^ (10 - 1) = d / 262144 := by rfl
      by_cases hb : (d / 262144) % 4 = 3
      · have H2 := Lib.hid (HC.out.trans (hFrom_at d 10 1 (by rw [e4]; exact hb)))
        have hy := and3_yes _ hb
        clear hb e4
        go_wp2_with fail
        go_roundw
        case rel => exact ⟨11, rfl, by omega, by omega, by simp, H2.out⟩
        case measure => simp [intOf]
      · have H2 := Lib.hid (HC.out.trans (hFrom_no d 10 1 (by rw [e4]; exact hb)))
        have hy := and3_no _ hb
        clear hb e4
        go_wp2_with fail
        go_ret
        exact ⟨by rw [H2.out]; rfl, rfl⟩
    · have e4 : d / 4 ^ (11 - 1) = d / 1048576 := by rfl
      by_cases hb : (d / 1048576) % 4 = 3
      · have H2 := Lib.hid (HC.out.trans (hFrom_at d 11 0 (by rw [e4]; exact hb)))
        have hy := and3_yes _ hb
        clear hb e4
        go_wp2_with fail
        go_roundw
        case rel => exact ⟨12, rfl, by omega, by omega, by simp, H2.out⟩
        case measure => simp [intOf]
      · have H2 := Lib.hid (HC.out.trans (hFrom_no d 11 0 (by rw [e4]; exact hb)))
        have hy := and3_no _ hb
        clear hb e4
        go_wp2_with fail
        go_ret
        exact ⟨by rw [H2.out]; rfl, rfl⟩
    · go_wp2_with fail
      go_ret
      exact ⟨by rw [HC.out]; rfl, rfl⟩
end Go.Proofs.Ytdnaebbfbkdjoaa
