/-
  Contracts of layer 3's orders: the document's Order and Cmp.
-/
import Derived.Test.YtggjkpgkmohmdaaIkP
import Derived.Deep.QuietTactic
import Derived.BigQuiet
namespace Go.Proofs.Ytggjkpgkmohmdaa
set_option linter.unusedVariables false
open Go.RowKit

set_option maxRecDepth 20000 in
theorem order_c (s t : ByteArray) (hs : s.size ≤ maxLen) (ht : t.size ≤ maxLen) (w : World) :
    Calls Try.prog 38 #[.string s, .string t] w (PlainRet (.int .i64 (Lib.compareBytes s.data.toList t.data.toList)) w) := by
  unfold maxLen at hs ht
  go_enter Try.func38, Try.ntmps38
  go_wp2_with fail
  go_loopw [5] (fun i wr => ∃ k : Nat, i = .int .i64 k ∧ k ≤ s.size ∧ k ≤ t.size ∧ Fr No w wr ∧ Lib.compareBytes s.data.toList t.data.toList = Lib.compareBytes (s.data.toList.drop k) (t.data.toList.drop k)) (fun i _ => s.size - (intOf i).toNat)
  case atStart => exact ⟨0, rfl, Nat.zero_le _, Nat.zero_le _, Fr.refl _ _, rfl⟩
  case round =>
    obtain ⟨k, rfl, hk, hk', hfr, he⟩ := hrel
    have HF := Lib.hid hfr
    have HE := Lib.hid he
    clear hfr he
    by_cases h1 : k < s.size
    · by_cases h2 : k < t.size
      · have e1 := ba_getD s k h1
        have e2 := ba_getD t k h2
        have ST := cmpB_step s.data.toList t.data.toList k (by rw [ba_len]; exact h1) (by rw [ba_len]; exact h2) HE.out
        rw [e1, e2] at ST
        have HS := Lib.hid ST
        clear ST e1 e2
        by_cases h3 : s[k].toNat < t[k].toNat
        · have HR := Lib.hid (HS.out.1 (by omega))
          go_wp2_with fail
          go_quiet (fail)
          go_wp2_with fail
          go_ret
          exact ⟨congrArg (fun x => Ending.returned (Value.int .i64 x)) HR.out.symm, HF.out.drewN _⟩
        · by_cases h4 : t[k].toNat < s[k].toNat
          · have HR := Lib.hid (HS.out.2.1 (by omega))
            go_wp2_with fail
            go_quiet (fail)
            go_wp2_with fail
            go_quiet (fail)
            go_wp2_with fail
            go_ret
            exact ⟨congrArg (fun x => Ending.returned (Value.int .i64 x)) HR.out.symm, (HF.out.drewN _).drewN _⟩
          · have HR := Lib.hid (HS.out.2.2 (by omega) (by omega))
            go_wp2_with fail
            go_quiet (fail)
            go_wp2_with fail
            go_quiet (fail)
            go_wp2_with fail
            go_roundw
            case rel => exact ⟨k + 1, by simp, by omega, by omega, HF.out.drewN _, HR.out⟩
            case measure => simp [intOf]; omega
      · have HR := Lib.hid (cmpB_drop s.data.toList t.data.toList k (.inr (by rw [ba_len]; omega)) (by rw [ba_len]; omega) (by rw [ba_len]; omega) HE.out)
        rw [ba_len, ba_len] at HR
        have h5 : ¬ s.size < t.size := by omega
        have h6 : t.size < s.size := by omega
        go_wp2_with fail
        go_ret
        exact ⟨congrArg (fun x => Ending.returned (Value.int .i64 x)) (HR.out.trans (by unfold cmpI; rw [if_neg (by omega), if_pos (by omega)])).symm, HF.out⟩
    · have HR := Lib.hid (cmpB_drop s.data.toList t.data.toList k (.inl (by rw [ba_len]; omega)) (by rw [ba_len]; omega) (by rw [ba_len]; omega) HE.out)
      rw [ba_len, ba_len] at HR
      by_cases h5 : s.size < t.size
      · go_wp2_with fail
        go_ret
        exact ⟨congrArg (fun x => Ending.returned (Value.int .i64 x)) (HR.out.trans (by unfold cmpI; rw [if_pos (by omega)])).symm, HF.out⟩
      · go_wp2_with fail
        go_ret
        exact ⟨congrArg (fun x => Ending.returned (Value.int .i64 x)) (HR.out.trans (by unfold cmpI; rw [if_neg (by omega), if_neg (by omega)])).symm, HF.out⟩
theorem orderE_c (s t : ByteArray) (hs : s.size ≤ maxLen) (ht : t.size ≤ maxLen) (w : World) :
    Calls Try.prog 20 #[.string s, .string t] w (PlainRet (.int .i64 (Lib.compareBytes s.data.toList t.data.toList)) w) := by
  have C := Lib.hid (order_c s t hs ht w)
  clear hs ht
  go_enter Try.func20, Try.ntmps20
  go_wp2_with fail
  refine C.out.mono ?_
  rintro e w' ⟨rfl, hf⟩
  go_wp2_with fail
  go_ret
  exact ⟨rfl, hf⟩
/-- The document's Cmp. -/
theorem cmp_ways (c q k q' k' : Int) : (c ≠ 0 ∧ orI c (cmpI q' q) (cmpI k' k) = c) ∨ (c = 0 ∧ q' < q ∧ orI c (cmpI q' q) (cmpI k' k) = -1) ∨ (c = 0 ∧ ¬ q' < q ∧ q < q' ∧ orI c (cmpI q' q) (cmpI k' k) = 1) ∨
      (c = 0 ∧ ¬ q' < q ∧ ¬ q < q' ∧ k' < k ∧ orI c (cmpI q' q) (cmpI k' k) = -1) ∨ (c = 0 ∧ ¬ q' < q ∧ ¬ q < q' ∧ ¬ k' < k ∧ k < k' ∧ orI c (cmpI q' q) (cmpI k' k) = 1) ∨
      (c = 0 ∧ ¬ q' < q ∧ ¬ q < q' ∧ ¬ k' < k ∧ ¬ k < k' ∧ orI c (cmpI q' q) (cmpI k' k) = 0) := by
  unfold orI
  by_cases hc : c = 0
  · rw [if_pos hc]
    rcases cmpI_cases q' q with ⟨a1, a2⟩ | ⟨a1, a2, a3⟩ | ⟨a1, a2⟩
    · rw [if_neg (by omega)]; omega
    · rw [if_neg (by omega)]; omega
    · rw [if_pos a2]
      rcases cmpI_cases k' k with ⟨b1, b2⟩ | ⟨b1, b2, b3⟩ | ⟨b1, b2⟩ <;> omega
  · rw [if_neg hc]; omega
set_option maxHeartbeats 2000000 in
set_option maxRecDepth 20000 in
theorem refCmp_c (s s' : ByteArray) (q k q' k' : Int) (hs : s.size ≤ maxLen) (hs' : s'.size ≤ maxLen) (w : World) :
    Calls Try.prog 31 #[.agg #[.string s, .int .i64 q, .int .i64 k], .agg #[.string s', .int .i64 q', .int .i64 k']] w (PlainRet (.int .i64 (cmpK s.data.toList q k s'.data.toList q' k')) w) := by
  obtain ⟨c, hc⟩ : ∃ c, Lib.compareBytes s.data.toList s'.data.toList = c := ⟨_, rfl⟩
  have C := fun w => order_c s s' hs hs' w
  rw [hc] at C
  have C := Lib.hid C
  have hK : cmpK s.data.toList q k s'.data.toList q' k' = orI c (cmpI q' q) (cmpI k' k) := congrArg (fun x => orI x (cmpI q' q) (cmpI k' k)) hc
  rw [hK]
  clear hK hc hs hs'
  have hcs := cmp_ways c q k q' k'
  rcases hcs with ⟨h1, h0⟩ | ⟨h1, h2, h0⟩ | ⟨h1, h2, h3, h0⟩ | ⟨h1, h2, h3, h4, h0⟩ | ⟨h1, h2, h3, h4, h5, h0⟩ | ⟨h1, h2, h3, h4, h5, h0⟩
  all_goals
    rw [h0]
    clear h0
    try subst h1
    go_enter Try.func31, Try.ntmps31
    go_wp2_with fail
    refine (C.out _).mono ?_
    rintro e w' ⟨rfl, hf⟩
    have HF := Lib.hid ((((Fr.refl No w).alloc _).alloc _).trans hf)
    have A1 : At w' w.heap.size 35 #[.string s, .int .i64 q, .int .i64 k] := ((At.new w _ _).keep ((Fr.refl No _).alloc _) (fun h => h)).keep hf (fun h => h)
    have A2 : At w' (w.heap.size + 1) 35 #[.string s', .int .i64 q', .int .i64 k'] := by
      have := (At.new (w.alloc (.cells #[.string s, .int .i64 q, .int .i64 k] 35)) 35 #[.string s', .int .i64 q', .int .i64 k']).keep hf (fun h => h)
      simpa using this
    have a1 := A1.cell 1
    have a2 := A1.cell 2
    have b1 := A2.cell 1
    have b2 := A2.cell 2
    simp at a1 a2 b1 b2
    clear A1 A2 hf
    go_wp2_with fail
    go_ret
    exact ⟨rfl, HF.out⟩
end Go.Proofs.Ytggjkpgkmohmdaa
