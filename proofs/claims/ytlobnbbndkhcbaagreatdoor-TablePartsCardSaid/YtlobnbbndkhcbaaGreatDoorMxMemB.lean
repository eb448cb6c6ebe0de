/-
  A block of four cells: its cells, a store into all of them. No function and no type of a program is named.
-/
import Derived.Test.YtlobnbbndkhcbaaGreatDoorMg01
namespace Go.Proofs.YtlobnbbndkhcbaaGreatDoor
set_option linter.unusedVariables false

theorem At.row4 {w : World} {g : Nat} {t : TypeId} {a b c d : Value} (h : At w g t #[a, b, c, d]) : w.cell? ⟨g, 0, none⟩ = some a ∧ w.cell? ⟨g, 1, none⟩ = some b ∧ w.cell? ⟨g, 2, none⟩ = some c ∧ w.cell? ⟨g, 3, none⟩ = some d ∧ w.frozen? ⟨g, 0, none⟩ = false ∧ w.frozen? ⟨g, 1, none⟩ = false ∧ w.frozen? ⟨g, 2, none⟩ = false ∧ w.frozen? ⟨g, 3, none⟩ = false :=
  ⟨h.cell 0, h.cell 1, h.cell 2, h.cell 3, h.frozen 0, h.frozen 1, h.frozen 2, h.frozen 3⟩
theorem At.put4 {w : World} {g : Nat} {t : TypeId} {a b c d x y z v : Value} (h : At w g t #[a, b, c, d]) : At ((((w.setCell ⟨g, 0, none⟩ x).setCell ⟨g, 1, none⟩ y).setCell ⟨g, 2, none⟩ z).setCell ⟨g, 3, none⟩ v) g t #[x, y, z, v] := by
  simpa using (((h.set_ 0 x).set_ 1 y).set_ 2 z).set_ 3 v
theorem put4_fr {w0 w : World} {g : Nat} {x y z v : Value} (f : Fr No w0 w) (hg : w0.heap.size ≤ g) : Fr No w0 ((((w.setCell ⟨g, 0, none⟩ x).setCell ⟨g, 1, none⟩ y).setCell ⟨g, 2, none⟩ z).setCell ⟨g, 3, none⟩ v) :=
  (((f.setCell (fun h => absurd h (Nat.not_lt_of_le hg)) x).setCell (fun h => absurd h (Nat.not_lt_of_le hg)) y).setCell (fun h => absurd h (Nat.not_lt_of_le hg)) z).setCell (fun h => absurd h (Nat.not_lt_of_le hg)) v
end Go.Proofs.YtlobnbbndkhcbaaGreatDoor
