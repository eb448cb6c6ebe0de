/-
  Texts of layer 14 and of what it stands on, one behind the other.
-/
import Derived.Test.YtihahckjcedceaaDoorMg29
import Derived.Test.YtihahckjcedceaaDoorMg14
import Derived.Test.YtihahckjcedceaaDoorMg09
import Derived.BigQuiet
import Derived.Deep.RegionHeld3
import Derived.Deep.QuietTactic

/- Layer 14: pointers: within, Check, Text; the document's Right and Text. -/
namespace Go.Proofs.YtihahckjcedceaaDoor
set_option linter.unusedVariables false
set_option linter.unusedSimpArgs false
open Go.RowKit

/-- A right pointer; its bytes. -/
def RtV (z t n : Int) : Prop := 0 ≤ z ∧ z ≤ 63 ∧ 0 ≤ t ∧ t ≤ 65536 ∧ 1 ≤ n ∧ n ≤ 65536
instance (z t n : Int) : Decidable (RtV z t n) := by unfold RtV; infer_instance
def ptrB (z t n : Int) : List UInt8 := enc z.toNat ++ enc t.toNat ++ enc n.toNat
def ptV (z t n : Int) : Value := .agg #[.int .i64 z, .int .i64 t, .int .i64 n]
theorem vwithin_c (n lo hi : Int) (w : World) : Calls Tryd.prog 35 #[.int .i64 n, .int .i64 lo, .int .i64 hi] w fun e w' => e = .returned (.bool (decide (lo ≤ n) && decide (n ≤ hi))) ∧ w = w' := by
  cases h1 : decide (lo ≤ n) <;> cases h2 : decide (n ≤ hi)
  all_goals
    go_enter Tryd.func35, Tryd.ntmps35
    go_wp2_with fail
    go_ret
    exact ⟨rfl, rfl⟩
theorem refRight14_c (z t n : Int) (w : World) : Calls Tryd.prog 10 #[.int .i64 z, .int .i64 t, .int .i64 n] w fun e w' => e = .returned (.bool (decide (RtV z t n))) ∧ w = w' := by
  by_cases h : RtV z t n
  · obtain ⟨h1, h2, h3, h4, h5, h6⟩ := id h
    rw [decide_eq_true h]
    clear h
    go_enter Tryd.func10, Tryd.ntmps10
    go_wp2_with fail
    go_ret
    exact ⟨rfl, rfl⟩
  · rw [decide_eq_false h]
    unfold RtV at h
    have h' : ¬ 0 ≤ z ∨ (0 ≤ z ∧ ¬ z ≤ 63) ∨ (0 ≤ z ∧ z ≤ 63 ∧ ¬ 0 ≤ t) ∨ (0 ≤ z ∧ z ≤ 63 ∧ 0 ≤ t ∧ ¬ t ≤ 65536) ∨ (0 ≤ z ∧ z ≤ 63 ∧ 0 ≤ t ∧ t ≤ 65536 ∧ ¬ 1 ≤ n) ∨ (0 ≤ z ∧ z ≤ 63 ∧ 0 ≤ t ∧ t ≤ 65536 ∧ 1 ≤ n ∧ ¬ n ≤ 65536) := by omega
    clear h
    rcases h' with h1 | ⟨h1, h2⟩ | ⟨h1, h2, h3⟩ | ⟨h1, h2, h3, h4⟩ | ⟨h1, h2, h3, h4, h5⟩ | ⟨h1, h2, h3, h4, h5, h6⟩
    all_goals
      go_enter Tryd.func10, Tryd.ntmps10
      go_wp2_with fail
      go_ret
      exact ⟨rfl, rfl⟩
theorem box_pt (w : World) (z t n : Int) : ∃ W, w.alloc (.cells #[.int .i64 z, .int .i64 t, .int .i64 n] 23) = W ∧ At W w.heap.size 23 #[.int .i64 z, .int .i64 t, .int .i64 n] ∧ Fr No w W :=
  ⟨_, rfl, At.new _ _ _, (Fr.refl No w).alloc _⟩
set_option maxHeartbeats 800000 in
theorem vcheck_c (z t n : Int) (w : World) : Calls Tryd.prog 11 #[ptV z t n] w (PlainRet (.int .i64 (if RtV z t n then 0 else 140)) w) := by
  obtain ⟨W, hW, hA, hf⟩ := box_pt w z t n
  have c0 := hA.cell 0
  have c1 := hA.cell 1
  have c2 := hA.cell 2
  simp at c0 c1 c2
  have HF := Lib.hid hf
  have C := Lib.hid vwithin_c
  have HR : Hid ((decide (0 ≤ z) && decide (z ≤ 63)) = true → (decide (0 ≤ t) && decide (t ≤ 65536)) = true → (decide (1 ≤ n) && decide (n ≤ 65536)) = true → (if RtV z t n then (0 : Int) else 140) = 0) := Lib.hid fun a b c => by
    simp only [Bool.and_eq_true, decide_eq_true_eq] at a b c
    exact if_pos ⟨a.1, a.2, b.1, b.2, c.1, c.2⟩
  have HN : Hid ((decide (0 ≤ z) && decide (z ≤ 63)) = false ∨ (decide (0 ≤ t) && decide (t ≤ 65536)) = false ∨ (decide (1 ≤ n) && decide (n ≤ 65536)) = false → (if RtV z t n then (0 : Int) else 140) = 140) := Lib.hid fun a => if_neg fun ⟨h1, h2, h3, h4, h5, h6⟩ => by
    rcases a with a | a | a <;> simp only [Bool.and_eq_false_iff, decide_eq_false_iff_not] at a <;> omega
  have C1 := Lib.hid (C.out z 0 63)
  have C2 := Lib.hid (C.out t 0 65536)
  have C3 := Lib.hid (C.out n 1 65536)
  generalize (if RtV z t n then (0 : Int) else 140) = R at *
  generalize (decide (0 ≤ z) && decide (z ≤ 63)) = b1 at *
  generalize (decide (0 ≤ t) && decide (t ≤ 65536)) = b2 at *
  generalize (decide (1 ≤ n) && decide (n ≤ 65536)) = b3 at *
  unfold ptV
  clear hA hf C
  cases b1
  · obtain rfl := HN.out (.inl rfl)
    go_enter Tryd.func11, Tryd.ntmps11
    go_wp2_with fail
    try rw [hW]
    refine (C1.out W).mono ?_
    rintro e w' ⟨rfl, rfl⟩
    go_wp2_with fail
    go_ret
    exact ⟨rfl, HF.out⟩
  cases b2
  · obtain rfl := HN.out (.inr (.inl rfl))
    go_enter Tryd.func11, Tryd.ntmps11
    go_wp2_with fail
    try rw [hW]
    refine (C1.out W).mono ?_
    rintro e w' ⟨rfl, rfl⟩
    go_wp2_with fail
    refine (C2.out W).mono ?_
    rintro e w' ⟨rfl, rfl⟩
    go_wp2_with fail
    go_ret
    exact ⟨rfl, HF.out⟩
  cases b3
  · obtain rfl := HN.out (.inr (.inr rfl))
    go_enter Tryd.func11, Tryd.ntmps11
    go_wp2_with fail
    try rw [hW]
    refine (C1.out W).mono ?_
    rintro e w' ⟨rfl, rfl⟩
    go_wp2_with fail
    refine (C2.out W).mono ?_
    rintro e w' ⟨rfl, rfl⟩
    go_wp2_with fail
    refine (C3.out W).mono ?_
    rintro e w' ⟨rfl, rfl⟩
    go_wp2_with fail
    go_ret
    exact ⟨rfl, HF.out⟩
  · obtain rfl := HR.out rfl rfl rfl
    go_enter Tryd.func11, Tryd.ntmps11
    go_wp2_with fail
    try rw [hW]
    refine (C1.out W).mono ?_
    rintro e w' ⟨rfl, rfl⟩
    go_wp2_with fail
    refine (C2.out W).mono ?_
    rintro e w' ⟨rfl, rfl⟩
    go_wp2_with fail
    refine (C3.out W).mono ?_
    rintro e w' ⟨rfl, rfl⟩
    go_wp2_with fail
    go_ret
    exact ⟨rfl, HF.out⟩
end Go.Proofs.YtihahckjcedceaaDoor
