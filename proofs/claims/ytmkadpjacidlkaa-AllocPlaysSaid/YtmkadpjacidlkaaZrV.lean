/-
  Lists turned element by element, from the front; no program is named.
-/
import Derived.Test.YtmkadpjacidlkaaMemG
namespace Go.Proofs.Ytmkadpjacidlkaa
set_option linter.unusedVariables false

def upto {α : Type} (l l' : List α) (k : Nat) : List α := l'.take k ++ l.drop k
section
variable {α : Type} {l l' : List α} {k : Nat}
theorem upto_zero (l l' : List α) : upto l l' 0 = l := by simp [upto]
theorem upto_all (h : l'.length = l.length) : upto l l' l.length = l' := by
  unfold upto
  rw [List.drop_length, List.append_nil, ← h, List.take_length]
theorem upto_length (h : l'.length = l.length) (k : Nat) : (upto l l' k).length = l.length := by
  unfold upto
  rw [List.length_append, List.length_take, List.length_drop]
  omega
theorem upto_get (h : l'.length = l.length) (hk : k < l.length) : (upto l l' k)[k]? = l[k]? := by
  unfold upto
  rw [List.getElem?_append_right (by rw [List.length_take]; omega), List.length_take, List.getElem?_drop, show k + (k - min k l'.length) = k by omega]
theorem upto_set (h : l'.length = l.length) (hk : k < l.length) {y : α} (hy : l'[k]? = some y) : (upto l l' k).set k y = upto l l' (k + 1) := by
  unfold upto
  rw [List.set_append_right _ _ (by rw [List.length_take]; omega), List.length_take, show k - min k l'.length = 0 by omega, List.drop_eq_getElem_cons hk, List.set_cons_zero, List.take_add_one, hy, List.append_assoc]
  rfl
theorem upto_map {β : Type} (f : α → β) (l l' : List α) (k : Nat) : (upto l l' k).map f = upto (l.map f) (l'.map f) k := by
  unfold upto
  rw [List.map_append, List.map_take, List.map_drop]
end
end Go.Proofs.Ytmkadpjacidlkaa
