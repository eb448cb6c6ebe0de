/-
  Layer 4: contracts of New; of slices.Clone, Grow, Concat at bytes; of Bytes and Parse.
-/
import Derived.Test.YtbglicndccdaiaaDoorBlF
import Derived.Test.YtbglicndccdaiaaDoorSame
import Derived.Lib.AppendZerosOnto
import Derived.Lib.SliceRun
import Derived.Lib.Walk
import Derived.Deep.RegionHeld3
namespace Go.Proofs.YtbglicndccdaiaaDoor
set_option linter.unusedVariables false
set_option linter.unusedSimpArgs false
open Go.RowKit

theorem make_bytes (w : World) (n : Nat) (h : n ≤ 140737488355328) :
    (Instr.makeSlice 23 (.int .i64 (n : Int)) (.int .i64 (n : Int))).run Tryd.prog w = .ok (.slice (some ⟨w.heap.size, 0, none⟩) n n) (w.alloc (.cells (madeCells #[.int .u8 0] n) 5)) := by
  obtain ⟨i0, hi, hz0, hz1, hz2⟩ := info_parts infoU8
  have hr := run_make (P := Tryd.prog) w 23 5 i0 (.int .u8 0) Tryd.underlying23 hi hz0 .i64 .i64 n n (by omega) (by omega) (by rw [hz2]; omega) (by omega)
  rw [hz1] at hr
  simp only [Int.toNat_natCast, Nat.mul_one] at hr
  exact hr
theorem madeBytes_row (w : World) (n : Nat) (hn : n ≤ 1000000000) : Row (w.alloc (.cells (madeCells #[.int .u8 0] n) 5)) (One w.heap.size) (.slice (some ⟨w.heap.size, 0, none⟩) n n) (List.replicate n 0) := by
  have hl : (List.replicate n (0 : UInt8)).length = n := by simp
  refine ⟨⟨by simp, .inr ⟨w.heap.size, n, madeCells #[.int .u8 0] n, by rw [hl], Nat.zero_le _, heap_alloc_new w _, by rw [hl]; exact Nat.le_refl _, by unfold maxLen; omega, by simp [size_madeCells], ?_⟩⟩, fun k hk => (Option.some.inj hk).symm⟩
  rw [hl, Nat.mul_one]
  apply List.ext_getElem
  · simp [size_madeCells]
  · intro i h1 h2
    have h3 : i < n := by simpa using h2
    simp [madeCells, Nat.mod_one]
theorem new_fil (w : World) (n p : Nat) (hn : n ≤ 1000000000) :
    Fil ((w.alloc (.cells (madeCells #[.int .u8 0] n) 5)).alloc (.cells #[.int .i64 (p : Int), .slice (some ⟨w.heap.size, 0, none⟩) n n] 51)) (w.heap.size + 1) w.heap.size (List.replicate n 0) p := by
  have R := madeBytes_row w n hn
  have A := At.new' (w.alloc (.cells (madeCells #[.int .u8 0] n) 5)) 51 #[.int .i64 (p : Int), .slice (some ⟨w.heap.size, 0, none⟩) n n] (g := w.heap.size + 1) (by simp)
  have f := (Fr.refl No (w.alloc (.cells (madeCells #[.int .u8 0] n) 5))).alloc (.cells #[.int .i64 (p : Int), .slice (some ⟨w.heap.size, 0, none⟩) n n] 51)
  refine ⟨⟨n, ?_, ?_, by unfold maxLen; omega⟩, by omega⟩
  · rw [List.length_replicate]
    exact A
  · rw [List.length_replicate]
    exact R.keep f (fun _ _ h => h)
def sizeB (k e : Nat) : Nat := (max (k * e) 64 + 7) / 8
theorem sizeF_B (k e : Nat) : sizeF k e = 8 * sizeB k e := by unfold sizeF sizeB; omega
set_option maxRecDepth 20000 in
set_option maxHeartbeats 1000000 in
theorem new_c (k e : Nat) (hk : k ≤ 65536) (he1 : 1 ≤ e) (he : e ≤ 32) (w : World) :
    Calls Tryd.prog 11 #[.int .i64 (k : Int), .int .i64 (e : Int)] w fun x w' =>
      ∃ b g, x = .returned (.tuple #[.pointer (some ⟨b, 0, none⟩), .int .i64 0]) ∧ Fil w' b g (List.replicate (sizeB k e) 0) (probF e) ∧ Fr No w w' ∧ w.heap.size ≤ b ∧ w.heap.size ≤ g := by
  obtain ⟨t, ht⟩ : ∃ t, k * e = t := ⟨_, rfl⟩
  have e1 : (k : Int) * (e : Int) = (t : Int) := by rw [← ht]; exact (Int.natCast_mul k e).symm
  have ht2 : t ≤ 65536 * 32 := by rw [← ht]; exact Nat.mul_le_mul hk he
  obtain ⟨T, hT⟩ : ∃ T, sizeB k e = T := ⟨_, rfl⟩
  have hT2 : T = (max t 64 + 7) / 8 := by rw [← hT, ← ht]; rfl
  rw [hT]
  have HP := Lib.hid (show probF e = max (e * 7 / 10) 1 from rfl)
  generalize probF e = P at *
  have hmk := fun w => make_bytes w T (by omega)
  have FIN := Lib.hid (fun w => new_fil w T P (by omega))
  have d1 : decide ((k : Int) < 0) = false := decide_eq_false (by omega)
  have d2 : decide (65536 < (k : Int)) = false := decide_eq_false (by omega)
  have d3 : decide ((e : Int) < 1) = false := decide_eq_false (by omega)
  have d4 : decide (32 < (e : Int)) = false := decide_eq_false (by omega)
  obtain ⟨m1, hm1⟩ : ∃ m1 : Nat, max t 64 = m1 := ⟨_, rfl⟩
  rw [hm1] at hT2
  have e2 : max (t : Int) 64 = (m1 : Int) := by omega
  have e3 : max ((e : Int) * 7 / 10) 1 = (P : Int) := by have := HP.out; omega
  have e4 : ((m1 : Int) + 7) / 8 = (T : Int) := by omega
  have e5 : ((m1 : Int) + 8 - 1) / 8 = (T : Int) := by omega
  have hm2 : m1 ≤ 65536 * 32 := by omega
  clear ht hT HP hm1 hT2
  go_enter Tryd.func11, Tryd.ntmps11
  go_wp2_with fail
  go_ret2
  exact ⟨w.heap.size + 1, w.heap.size, rfl, FIN.out w, ((Fr.refl No w).alloc _).alloc _, by omega, Nat.le_refl _⟩
set_option maxHeartbeats 400000 in
theorem new_no (k e : Int) (w : World) (hk0 : -9223372036854775808 ≤ k) (hk1 : k ≤ 9223372036854775807) (he0 : -9223372036854775808 ≤ e) (he1 : e ≤ 9223372036854775807) (h : k < 0 ∨ 65536 < k ∨ e < 1 ∨ 32 < e) :
    Calls Tryd.prog 11 #[.int .i64 k, .int .i64 e] w fun x w' => x = .returned (.tuple #[.pointer none, .int .i64 70]) ∧ w = w' := by
  by_cases h1 : k < 0
  · have d1 : decide (k < 0) = true := decide_eq_true h1
    go_enter Tryd.func11, Tryd.ntmps11
    go_wp2_with fail
    go_ret2
    exact ⟨rfl, rfl⟩
  · have d1 : decide (k < 0) = false := decide_eq_false h1
    by_cases h2 : 65536 < k
    · have d2 : decide (65536 < k) = true := decide_eq_true h2
      go_enter Tryd.func11, Tryd.ntmps11
      go_wp2_with fail
      go_ret2
      exact ⟨rfl, rfl⟩
    · have d2 : decide (65536 < k) = false := decide_eq_false h2
      by_cases h3 : e < 1
      · have d3 : decide (e < 1) = true := decide_eq_true h3
        go_enter Tryd.func11, Tryd.ntmps11
        go_wp2_with fail
        go_ret2
        exact ⟨rfl, rfl⟩
      · have d3 : decide (e < 1) = false := decide_eq_false h3
        have d4 : decide (32 < e) = true := decide_eq_true (by omega)
        go_enter Tryd.func11, Tryd.ntmps11
        go_wp2_with fail
        go_ret2
        exact ⟨rfl, rfl⟩
end Go.Proofs.YtbglicndccdaiaaDoor
