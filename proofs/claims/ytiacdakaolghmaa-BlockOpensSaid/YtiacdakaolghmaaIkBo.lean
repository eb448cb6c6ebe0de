/-
  Contract of layer 3's order: the document's Order.
-/
import Derived.Test.YtiacdakaolghmaaIkPa
import Derived.Deep.QuietTactic
import Derived.BigQuiet
namespace Go.Proofs.Ytiacdakaolghmaa
set_option linter.unusedVariables false
open Go.RowKit

set_option maxRecDepth 20000 in
theorem order_c (s t : ByteArray) (hs : s.size ≤ maxLen) (ht : t.size ≤ maxLen) (w : World) :
    Calls Try.prog 42 #[.string s, .string t] w (PlainRet (.int .i64 (Lib.compareBytes s.data.toList t.data.toList)) w) := by
  unfold maxLen at hs ht
  go_enter Try.func42, Try.ntmps42
  go_wp2_with fail
  go_loopw [5] (fun i wr => ∃ k : Nat, i = .int .i64 k ∧ k ≤ s.size ∧ k ≤ t.size ∧ Fr No w wr ∧ Lib.compareBytes s.data.toList t.data.toList = Lib.compareBytes (s.data.toList.drop k) (t.data.toList.drop k)) (fun i _ => s.size - (intOf i).toNat)
  case atStart => exact ⟨0, rfl, Nat.zero_le _, Nat.zero_le _, Fr.refl _ _, rfl⟩
  case round =>
    obtain ⟨k, rfl, hk, hk', hfr, he⟩ := hrel
    have HF := Lib.hid hfr
    have HE := Lib.hid he
    clear hfr he
    by_cases h1 : k < s.size
    · by_cases h2 : k < t.size
      · have e1 := ba_getD s k h1
        have e2 := ba_getD t k h2
        have ST := cmpB_step s.data.toList t.data.toList k (by rw [ba_len]; exact h1) (by rw [ba_len]; exact h2) HE.out
        rw [e1, e2] at ST
        have HS := Lib.hid ST
        clear ST e1 e2
        by_cases h3 : s[k].toNat < t[k].toNat
        · have HR := Lib.hid (HS.out.1 (by omega))
          go_wp2_with fail
          go_quiet (fail)
          go_wp2_with fail
          go_ret
          exact ⟨congrArg (fun x => Ending.returned (Value.int .i64 x)) HR.out.symm, HF.out.drewN _⟩
        · by_cases h4 : t[k].toNat < s[k].toNat
          · have HR := Lib.hid (HS.out.2.1 (by omega))
            go_wp2_with fail
            go_quiet (fail)
            go_wp2_with fail
            go_quiet (fail)
            go_wp2_with fail
            go_ret
            exact ⟨congrArg (fun x => Ending.returned (Value.int .i64 x)) HR.out.symm, (HF.out.drewN _).drewN _⟩
          · have HR := Lib.hid (HS.out.2.2 (by omega) (by omega))
            go_wp2_with fail
            go_quiet (fail)
            go_wp2_with fail
            go_quiet (fail)
            go_wp2_with fail
            go_roundw
            case rel => exact ⟨k + 1, by simp, by omega, by omega, HF.out.drewN _, HR.out⟩
            case measure => simp [intOf]; omega
      · have HR := Lib.hid (cmpB_drop s.data.toList t.data.toList k (.inr (by rw [ba_len]; omega)) (by rw [ba_len]; omega) (by rw [ba_len]; omega) HE.out)
        rw [ba_len, ba_len] at HR
        have h5 : ¬ s.size < t.size := by omega
        have h6 : t.size < s.size := by omega
        go_wp2_with fail
        go_ret
        exact ⟨congrArg (fun x => Ending.returned (Value.int .i64 x)) (HR.out.trans (by unfold cmpI; rw [if_neg (by omega), if_pos (by omega)])).symm, HF.out⟩
    · have HR := Lib.hid (cmpB_drop s.data.toList t.data.toList k (.inl (by rw [ba_len]; omega)) (by rw [ba_len]; omega) (by rw [ba_len]; omega) HE.out)
      rw [ba_len, ba_len] at HR
      by_cases h5 : s.size < t.size
      · go_wp2_with fail
        go_ret
        exact ⟨congrArg (fun x => Ending.returned (Value.int .i64 x)) (HR.out.trans (by unfold cmpI; rw [if_pos (by omega)])).symm, HF.out⟩
      · go_wp2_with fail
        go_ret
        exact ⟨congrArg (fun x => Ending.returned (Value.int .i64 x)) (HR.out.trans (by unfold cmpI; rw [if_neg (by omega), if_neg (by omega)])).symm, HF.out⟩
theorem orderE_c (s t : ByteArray) (hs : s.size ≤ maxLen) (ht : t.size ≤ maxLen) (w : World) :
    Calls Try.prog 30 #[.string s, .string t] w (PlainRet (.int .i64 (Lib.compareBytes s.data.toList t.data.toList)) w) := by
  have C := Lib.hid (order_c s t hs ht w)
  clear hs ht
  go_enter Try.func30, Try.ntmps30
  go_wp2_with fail
  refine C.out.mono ?_
  rintro e w' ⟨rfl, hf⟩
  go_wp2_with fail
  go_ret
  exact ⟨rfl, hf⟩
end Go.Proofs.Ytiacdakaolghmaa
