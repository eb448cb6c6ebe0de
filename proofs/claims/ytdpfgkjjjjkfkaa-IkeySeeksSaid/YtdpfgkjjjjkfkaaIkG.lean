/-
  The walk of IkeySeeks.
-/
import Derived.Test.YtdpfgkjjjjkfkaaIkF
namespace Go.Proofs.Ytdpfgkjjjjkfkaa
set_option linter.unusedVariables false
open Go.RowKit

set_option maxRecDepth 20000 in
set_option maxHeartbeats 2000000 in
theorem seeks_c (s : ByteArray) (q k x : Int) (w : World) :
    Calls Try.prog 6 #[.agg #[.string s, .int .i64 q, .int .i64 k], .int .i64 x] w (Yes w) := by
  have CA := Lib.hid awake_c
  have A1 : At _ w.heap.size _ _ := At.new w 23 #[.string s, .int .i64 q, .int .i64 k]
  have hf0 := (Fr.refl No w).alloc (.cells #[.string s, .int .i64 q, .int .i64 k] 23)
  by_cases h0 : (s.size : Int) ≤ 300
  · have CS := fun w => small_c s q k w
    rw [decide_eq_true h0] at CS
    have CS := Lib.hid CS
    by_cases hk : 1 ≤ k ∧ k ≤ 3
    · obtain ⟨k1, k3⟩ := hk
      obtain ⟨c, hc⟩ : ∃ c, cmpK s.data.toList x 3 s.data.toList q k = c := ⟨_, rfl⟩
      have CC := fun w => cmp_c s s x 3 q k w
      rw [hc] at CC
      have CC := Lib.hid CC
      have CE := fun w => sees_c s q k x w
      have hcc : (q ≤ x ∧ c ≤ 0) ∨ (¬ q ≤ x ∧ ¬ c ≤ 0) := by
        rw [← hc, cmpK_same, orI_assoc0]
        rcases cmpI_cases q x with ⟨a1, a2⟩ | ⟨a1, a2, a3⟩ | ⟨a1, a2⟩ <;> rcases cmpI_cases k 3 with ⟨b1, b2⟩ | ⟨b1, b2, b3⟩ | ⟨b1, b2⟩ <;> split <;> omega
      clear hc
      rcases hcc with ⟨hq, hc⟩ | ⟨hq, hc⟩
      all_goals
        first
          | (have hd : decide (q ≤ x) = true := decide_eq_true hq
             have hd' : decide (c ≤ 0) = true := decide_eq_true hc)
          | (have hd : decide (q ≤ x) = false := decide_eq_false hq
             have hd' : decide (c ≤ 0) = false := decide_eq_false hc)
        rw [hd] at CE
        have CE := Lib.hid CE
        go_enter Try.func6, Try.ntmps6
        go_wp2_with fail
        generalize w.alloc (.cells #[.string s, .int .i64 q, .int .i64 k] 23) = W at *
        refine (CS.out _).mono ?_
        rintro e w1 ⟨rfl, hf1⟩
        have A2 := A1.keep hf1 (fun h => h)
        have HF1 := Lib.hid (hf0.trans hf1)
        have a0 := A2.cell 0
        have a1 := A2.cell 1
        have a2 := A2.cell 2
        simp at a0 a1 a2
        clear A1 hf0 hf1
        go_wp2_with fail
        refine (seek_c s x _).mono ?_
        rintro e w2 ⟨rfl, hf2⟩
        have A3 := (A2.keep hf2 (fun h => h)).keep ((Fr.refl No w2).alloc (.cells #[.string s, .int .i64 x, .int .i64 3] 23)) (fun h => h)
        have B3 : At _ w2.heap.size _ _ := At.new w2 23 #[.string s, .int .i64 x, .int .i64 3]
        have HF := Lib.hid (((HF1.out.trans hf2).alloc (.cells #[.string s, .int .i64 x, .int .i64 3] 23)).drew)
        clear A2 a0 a1 a2 HF1 hf2
        go_wp2_with fail
        generalize w2.alloc (.cells #[.string s, .int .i64 x, .int .i64 3] 23) = W2 at *
        have a0 := A3.cell 0
        have a1 := A3.cell 1
        have a2 := A3.cell 2
        have b0 := B3.cell 0
        have b1 := B3.cell 1
        have b2 := B3.cell 2
        simp at a0 a1 a2 b0 b1 b2
        clear A3 B3
        go_region_held3 (fun w' => w'.cell? ⟨w.heap.size, 0, none⟩ = some (.string s) ∧ w'.cell? ⟨w.heap.size, 1, none⟩ = some (.int .i64 q) ∧ w'.cell? ⟨w.heap.size, 2, none⟩ = some (.int .i64 k) ∧
            w'.cell? ⟨w2.heap.size, 0, none⟩ = some (.string s) ∧ w'.cell? ⟨w2.heap.size, 1, none⟩ = some (.int .i64 x) ∧ w'.cell? ⟨w2.heap.size, 2, none⟩ = some (.int .i64 3)) (first | assumption | go_keep)
          (first
            | (go_at_call 23; refine (CE.out _).mono ?_; intro e wk hret; obtain ⟨rfl, hf⟩ := hret
               have a0 := hf.cell (p := ⟨w.heap.size, 0, none⟩) (v := .string s) a0 (fun h => h)
               have a1 := hf.cell (p := ⟨w.heap.size, 1, none⟩) (v := .int .i64 q) a1 (fun h => h)
               have a2 := hf.cell (p := ⟨w.heap.size, 2, none⟩) (v := .int .i64 k) a2 (fun h => h)
               have b0 := hf.cell (p := ⟨w2.heap.size, 0, none⟩) (v := .string s) b0 (fun h => h)
               have b1 := hf.cell (p := ⟨w2.heap.size, 1, none⟩) (v := .int .i64 x) b1 (fun h => h)
               have b2 := hf.cell (p := ⟨w2.heap.size, 2, none⟩) (v := .int .i64 3) b2 (fun h => h)
               have HF := Lib.hid (HF.out.trans hf)
               clear hf)
            | (go_at_call 20; refine (CC.out _).mono ?_; intro e wk hret; obtain ⟨rfl, hf⟩ := hret
               have a0 := hf.cell (p := ⟨w.heap.size, 0, none⟩) (v := .string s) a0 (fun h => h)
               have a1 := hf.cell (p := ⟨w.heap.size, 1, none⟩) (v := .int .i64 q) a1 (fun h => h)
               have a2 := hf.cell (p := ⟨w.heap.size, 2, none⟩) (v := .int .i64 k) a2 (fun h => h)
               have b0 := hf.cell (p := ⟨w2.heap.size, 0, none⟩) (v := .string s) b0 (fun h => h)
               have b1 := hf.cell (p := ⟨w2.heap.size, 1, none⟩) (v := .int .i64 x) b1 (fun h => h)
               have b2 := hf.cell (p := ⟨w2.heap.size, 2, none⟩) (v := .int .i64 3) b2 (fun h => h)
               have HF := Lib.hid (HF.out.trans hf)
               clear hf)
            | (go_at_call 11; refine (CA.out _).mono ?_; intro e wk hret; obtain ⟨rfl, hf⟩ := hret
               have a0 := hf.cell (p := ⟨w.heap.size, 0, none⟩) (v := .string s) a0 (fun h => h)
               have a1 := hf.cell (p := ⟨w.heap.size, 1, none⟩) (v := .int .i64 q) a1 (fun h => h)
               have a2 := hf.cell (p := ⟨w.heap.size, 2, none⟩) (v := .int .i64 k) a2 (fun h => h)
               have b0 := hf.cell (p := ⟨w2.heap.size, 0, none⟩) (v := .string s) b0 (fun h => h)
               have b1 := hf.cell (p := ⟨w2.heap.size, 1, none⟩) (v := .int .i64 x) b1 (fun h => h)
               have b2 := hf.cell (p := ⟨w2.heap.size, 2, none⟩) (v := .int .i64 3) b2 (fun h => h)
               have HF := Lib.hid (HF.out.trans hf)
               clear hf))
        all_goals
          go_wp2_with fail
          go_ret
          exact ⟨rfl, HF.out⟩
    · have hk' : ¬ 1 ≤ k ∨ (1 ≤ k ∧ ¬ k ≤ 3) := by omega
      rcases hk' with hk' | ⟨k1, k3⟩
      all_goals
        clear hk
        go_enter Try.func6, Try.ntmps6
        go_wp2_with fail
        generalize w.alloc (.cells #[.string s, .int .i64 q, .int .i64 k] 23) = W at *
        refine (CS.out _).mono ?_
        rintro e w1 ⟨rfl, hf1⟩
        have A2 := A1.keep hf1 (fun h => h)
        have HF1 := Lib.hid (hf0.trans hf1)
        have a2 := A2.cell 2
        simp at a2
        clear A1 hf0 hf1 A2
        go_wp2_with fail
        refine (CA.out _).mono ?_
        rintro e w2 ⟨rfl, hf2⟩
        go_wp2_with fail
        go_ret
        exact ⟨rfl, HF1.out.trans hf2⟩
  · have CS := fun w => small_c s q k w
    rw [decide_eq_false h0] at CS
    have CS := Lib.hid CS
    clear A1
    go_enter Try.func6, Try.ntmps6
    go_wp2_with fail
    refine (CS.out _).mono ?_
    rintro e w1 ⟨rfl, hf1⟩
    have HF1 := Lib.hid (hf0.trans hf1)
    clear hf0 hf1
    go_wp2_with fail
    refine (CA.out _).mono ?_
    rintro e w2 ⟨rfl, hf2⟩
    go_wp2_with fail
    go_ret
    exact ⟨rfl, HF1.out.trans hf2⟩
theorem ikeySeeks_walk (w : World) (s : ByteArray) (q k : Int) (hs : s.size ≤ maxLen) (wq : (Lit.int .i64 q).wf = true) (wk : (Lit.int .i64 k).wf = true) (x : Int) (wx : (Lit.int .i64 x).wf = true) :
    Calls Try.prog 6 #[.agg #[.string s, .int .i64 q, .int .i64 k], .int .i64 x] w fun e w' => e = .returned (.bool true) ∧ Below w.heap.size w w' := (seeks_c s q k x w).mono fun _ _ h => h.post
end Go.Proofs.Ytdpfgkjjjjkfkaa
