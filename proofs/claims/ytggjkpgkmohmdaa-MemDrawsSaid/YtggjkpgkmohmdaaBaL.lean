/-
  Layer 10: the keys of a batch's ops, and its last number, as the program tells them.
-/
import Derived.Test.YtggjkpgkmohmdaaBaO
import Derived.Test.YtggjkpgkmohmdaaMemG
namespace Go.Proofs.Ytggjkpgkmohmdaa
set_option linter.unusedVariables false
open Go.RowKit

def lastO (q : Int) (l : List Op10) : Int := if allO q l then q + (l.length : Int) - 1 else 0
def keyC (q : Int) (x : Op10) : List Value := [.string x.key, .int .i64 q, .int .i64 x.k]
def keysC : Int → List Op10 → List Value
  | _, [] => []
  | q, x :: l => keyC q x ++ keysC (q + 1) l
def keysO (q : Int) (l : List Op10) : List Value := if allO q l then keysC q l else []
def KeysR (q : Int) (l : List Op10) (w : World) (e : Ending) (w' : World) : Prop :=
  ∃ v, e = .returned v ∧ RowG w' (Gr No w w') 37 3 v (if allO q l then l.length else 0) (keysO q l) ∧ Fr No w w'
/-- A key in a block of its own. -/
theorem box_key (w : World) (s : ByteArray) (q k : Int) :
    ∃ W, w.alloc (.cells #[.string s, .int .i64 q, .int .i64 k] 37) = W ∧ Fr No w W ∧ W.cell? ⟨w.heap.size, 0, none⟩ = some (.string s) ∧ W.cell? ⟨w.heap.size, 1, none⟩ = some (.int .i64 q) ∧ W.cell? ⟨w.heap.size, 2, none⟩ = some (.int .i64 k) :=
  ⟨_, rfl, (Fr.refl _ _).alloc _, by rw [cell_of_row _ w.heap.size 0 _ _ (0, 0) (heap_alloc_new w _)]; rfl, by rw [cell_of_row _ w.heap.size 1 _ _ (0, 0) (heap_alloc_new w _)]; rfl, by rw [cell_of_row _ w.heap.size 2 _ _ (0, 0) (heap_alloc_new w _)]; rfl⟩
theorem keysC_length (l : List Op10) : ∀ q, (keysC q l).length = l.length * 3 := by
  induction l with
  | nil => intro q; rfl
  | cons x l ih =>
    intro q
    show (keyC q x ++ keysC (q + 1) l).length = _
    rw [List.length_append, ih, List.length_cons]
    simp [keyC]
    omega
theorem keysC_get (l : List Op10) : ∀ q i, i < l.length → (keysC q l)[i * 3]? = some (.string (l.getD i op0).key) ∧ (keysC q l)[i * 3 + 1]? = some (.int .i64 (q + i)) ∧ (keysC q l)[i * 3 + 2]? = some (.int .i64 (l.getD i op0).k) := by
  induction l with
  | nil => intro q i h; simp at h
  | cons p l ih =>
    intro q i h
    have e : keysC q (p :: l) = keyC q p ++ keysC (q + 1) l := rfl
    have hl : (keyC q p).length = 3 := rfl
    cases i with
    | zero => exact ⟨rfl, by rw [e]; simp [keyC], rfl⟩
    | succ i =>
      obtain ⟨h1, h2, h3⟩ := ih (q + 1) i (by simpa using h)
      rw [e]
      refine ⟨?_, ?_, ?_⟩
      · rw [List.getElem?_append_right (by omega), show (i + 1) * 3 - (keyC q p).length = i * 3 by omega]; exact h1
      · rw [List.getElem?_append_right (by omega), show (i + 1) * 3 + 1 - (keyC q p).length = i * 3 + 1 by omega, h2]
        congr 2
        omega
      · rw [List.getElem?_append_right (by omega), show (i + 1) * 3 + 2 - (keyC q p).length = i * 3 + 2 by omega]; exact h3
end Go.Proofs.Ytggjkpgkmohmdaa
