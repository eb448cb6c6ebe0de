/-
  Layer 10: what is right (rightO, allO); boxes of an op and of a batch; errors. No function is named.
-/
import Derived.Test.YtggjkpgkmohmdaaBaA
import Derived.Lib.Hide
import Derived.Handy
namespace Go.Proofs.Ytggjkpgkmohmdaa
set_option linter.unusedVariables false
open Go.RowKit

/-- A value comes back, and nothing that was there has turned. -/
def Ask (v : Value) (w : World) (e : Ending) (w' : World) : Prop := e = .returned v ∧ Fr No w w'

def rightO (x : Op10) : Bool := decide (1 ≤ x.key.size) && decide (x.key.size ≤ 64) && decide (x.val.size ≤ 4096) && (x.k == 1 || (x.k == 2 && x.val.size == 0))
def allO (q : Int) (l : List Op10) : Bool := decide (1 ≤ l.length) && decide (l.length ≤ 64) && decide (0 ≤ q) && decide (q + l.length ≤ 1099511627776) && l.all rightO
theorem empty_toList (s : ByteArray) : s.toList.isEmpty = (s.size == 0) := by
  rw [ByteArray.toList_eq]
  rcases s with ⟨⟨l⟩⟩
  cases l <;> rfl

theorem allO_no {q : Int} {l : List Op10} (h : l.length < 1 ∨ 64 < l.length ∨ q < 0 ∨ 1099511627776 - (l.length : Int) < q) : allO q l = false := by
  unfold allO
  rcases Bool.eq_false_or_eq_true (decide (1 ≤ l.length) && decide (l.length ≤ 64) && decide (0 ≤ q) && decide (q + l.length ≤ 1099511627776)) with h1 | h1
  · simp at h1
    omega
  · rw [h1, Bool.false_and]
theorem allO_no' {q : Int} {l : List Op10} {i : Nat} (hi : i < l.length) (h : rightO (l.getD i op0) = false) : allO q l = false := by
  unfold allO
  rw [Bool.and_eq_false_iff]
  right
  rw [List.all_eq_false]
  refine ⟨_, List.getElem_mem hi, ?_⟩
  rw [getD_op l i hi] at h
  simp [h]
theorem allO_yes {q : Int} {l : List Op10} (h1 : 1 ≤ l.length) (h2 : l.length ≤ 64) (h3 : 0 ≤ q) (h4 : q + l.length ≤ 1099511627776) (h : ∀ j, j < l.length → rightO (l.getD j op0) = true) : allO q l = true := by
  unfold allO
  simp only [Bool.and_eq_true, decide_eq_true_eq, List.all_eq_true]
  refine ⟨⟨⟨⟨h1, h2⟩, h3⟩, h4⟩, fun x hx => ?_⟩
  obtain ⟨i, hi, rfl⟩ := List.mem_iff_getElem.1 hx
  rw [← getD_op l i hi]
  exact h i hi
theorem allO_parts {q : Int} {l : List Op10} (h : allO q l = true) : 1 ≤ l.length ∧ l.length ≤ 64 ∧ 0 ≤ q ∧ q + l.length ≤ 1099511627776 ∧ ∀ x ∈ l, rightO x = true := by
  unfold allO at h
  simp only [Bool.and_eq_true, decide_eq_true_eq, List.all_eq_true] at h
  obtain ⟨⟨⟨⟨h1, h2⟩, h3⟩, h4⟩, h5⟩ := h
  exact ⟨h1, h2, h3, h4, h5⟩
theorem wf_10 {n : Int} (h : (Lit.int .i64 n).wf = true) : -9223372036854775808 ≤ n ∧ n ≤ 9223372036854775807 := by
  simp [Lit.wf, IntKind.min, IntKind.max, IntKind.signed, IntKind.bits] at h
  omega
theorem getD_mem (l : List Op10) (i : Nat) (h : i < l.length) : l.getD i op0 ∈ l := by
  rw [getD_op l i h]
  exact List.getElem_mem h

theorem rightO_parts {x : Op10} (h : rightO x = true) : 1 ≤ x.key.size ∧ x.key.size ≤ 64 ∧ x.val.size ≤ 4096 ∧ (x.k = 1 ∨ x.k = 2 ∧ x.val.size = 0) := by
  unfold rightO at h
  simp at h
  obtain ⟨⟨⟨h1, h2⟩, h3⟩, h4⟩ := h
  exact ⟨h1, h2, h3, h4.imp id fun ⟨a, b⟩ => ⟨a, by rw [b]; rfl⟩⟩

theorem size_zero {s : ByteArray} (h : s.size = 0) : s = ByteArray.empty := by
  rcases s with ⟨⟨l⟩⟩
  have : l.length = 0 := h
  rw [List.eq_nil_of_length_eq_zero this]
  rfl
/-- A batch in a block of its own. -/
theorem box_batch (w : World) (q : Int) (v : Value) :
    ∃ W, w.alloc (.cells #[.int .i64 q, v] 58) = W ∧ Fr No w W ∧ W.cell? ⟨w.heap.size, 0, none⟩ = some (.int .i64 q) ∧ W.cell? ⟨w.heap.size, 1, none⟩ = some v :=
  ⟨_, rfl, (Fr.refl _ _).alloc _, by rw [cell_of_row _ w.heap.size 0 _ _ (0, 0) (heap_alloc_new w _)]; rfl, by rw [cell_of_row _ w.heap.size 1 _ _ (0, 0) (heap_alloc_new w _)]; rfl⟩
/-- An op in a block of its own. -/
theorem box_op (w : World) (x : Op10) :
    ∃ W, w.alloc (.cells #[.int .i64 x.k, .string x.key, .string x.val] 53) = W ∧ Fr No w W ∧ OpAt W w.heap.size 0 x :=
  ⟨_, rfl, (Fr.refl _ _).alloc _, by rw [cell_of_row _ w.heap.size 0 _ _ (0, 0) (heap_alloc_new w _)]; rfl, by rw [cell_of_row _ w.heap.size 1 _ _ (0, 0) (heap_alloc_new w _)]; rfl, by rw [cell_of_row _ w.heap.size 2 _ _ (0, 0) (heap_alloc_new w _)]; rfl⟩
theorem toList_eq_iff (s t : ByteArray) : (s.toList == t.toList) = decide (s = t) := by
  rw [ByteArray.toList_eq, ByteArray.toList_eq]
  rcases s with ⟨⟨l⟩⟩
  rcases t with ⟨⟨m⟩⟩
  by_cases h : l = m
  · subst h; simp
  · simp [h]
def errO (b : Bool) : Value := .int .i64 (if b then 0 else 100)
end Go.Proofs.Ytggjkpgkmohmdaa
