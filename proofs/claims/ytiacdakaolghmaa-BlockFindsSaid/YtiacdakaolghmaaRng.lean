/-
  What a law on ranges over functions asks of an invariant, in the words of MemI: rows of integers.
-/
import Derived.Test.YtiacdakaolghmaaRngB
import Derived.Test.YtiacdakaolghmaaMemI
import Derived.Test.YtiacdakaolghmaaOpenB
namespace Go.Proofs.Ytiacdakaolghmaa
set_option linter.unusedVariables false
open Go.RowKit

theorem own_rowI {W W' : World} {S : Nat → Prop} {row : Option Nat} {B : Nat} {v : Value} {l : List Int} (h : RowI W S v l) (hg : W.grownBy W' row) (hr : Turns B W row) : RowI W' S v l := by
  obtain ⟨⟨h1, h2⟩, h3⟩ := h
  refine ⟨⟨h1, ?_⟩, h3⟩
  rcases h2 with h2 | ⟨g, cap, cur, rfl, hb, hgc, rest⟩
  · exact .inl h2
  · exact .inr ⟨g, cap, cur, rfl, hb, (hg.block g (Array.getElem?_eq_some_iff.1 hgc).1 (hr.cells hgc)).trans hgc, rest⟩
theorem RowI.own {w : World} {S : Nat → Prop} {v : Value} {l : List Int} (h : RowI w S v l) : RowI w (Own1 v) v l := ⟨h.1, fun _ hk => hk⟩
/-- What a row's own block turns keeps whatever is no cells. -/
theorem RowI.others {W W' : World} {S : Nat → Prop} {v : Value} {l : List Int} (h : RowI W S v l) (f : Fr (Own1 v) W W') : KeepsOthers W W' := by
  refine ⟨f.size, fun k o hk ho => ?_⟩
  have hlt : k < W.heap.size := (Array.getElem?_eq_some_iff.1 hk).1
  refine (f.block k hlt fun hv => ?_).trans hk
  rcases h.1.2 with ⟨rfl, _⟩ | ⟨g, cap, cur, rfl, _, hg, _⟩
  · have hv : (none : Option Nat) = some k := hv
    cases hv
  · have hv : some g = some k := hv
    cases hv
    rw [hg] at hk
    cases hk
    simp [Obj.isCells] at ho
end Go.Proofs.Ytiacdakaolghmaa
