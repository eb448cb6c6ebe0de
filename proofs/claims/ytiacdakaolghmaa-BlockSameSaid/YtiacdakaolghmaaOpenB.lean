/-
  Arguments opened: rows of numbers (bytes: OpenBy).
-/
import Derived.Test.YtiacdakaolghmaaOpenBy
namespace Go.Proofs.Ytiacdakaolghmaa
set_option linter.unusedVariables false
open Go.ChangeShapes Go.WideShapes Go.ChangeAt Go.RowKit Go.Deep

section
variable {H : Type} {enc : TypeId × Value → H} {w : World} {base : Nat} {spare : Nat → Bool} {held : Bool}
set_option maxRecDepth 20000 in
theorem ints_of {fuel : Nat} {v : Value} {y : DataW H × List MemPlace} (h : DataW.trod enc Try.prog w base spare held fuel 58 [v] = some y) :
    ∃ a cap l, v = .slice a l.length cap ∧ l.length ≤ cap ∧ cap ≤ maxLen ∧ Ints w a l := by
  rcases open_ints Try.underlying58 Try.underlying3 cellsInt h with ⟨hcs, _⟩ | ⟨x, l, c, zs, hcs, _, hl, hm, hz, _, hcell, hwz⟩
  · cases hcs
    exact ⟨none, 0, [], rfl, Nat.le_refl _, by simp [maxLen], fun h => absurd h (by simp)⟩
  · cases hcs
    have hzl : l ≤ zs.length := by rw [hz]; split <;> omega
    refine ⟨some x, c, zs.take l, by congr 1; simp; omega, by simp; omega, hm, ?_⟩
    intro hlen
    have hlen : 0 < l := by simp at hlen; omega
    obtain ⟨b, off, spot⟩ := x
    have hc0 := hcell 0 (by omega)
    have hspot : spot = none := by simpa [Addr.add] using World.cell?_spot hc0
    subst hspot
    refine ⟨b, off, rfl, fun i x hi => ?_⟩
    have hil : i < l := by
      rcases Nat.lt_or_ge i l with h' | h'
      · exact h'
      · rw [List.getElem?_eq_none (by simp; omega)] at hi; cases hi
    rw [List.getElem?_take, if_pos hil] at hi
    have h1 := hcell i (by omega)
    rw [add_plain] at h1
    have e : zs.getD i 0 = x := by simp [List.getD, hi]
    rw [e] at h1
    exact ⟨h1, hwz x (List.mem_of_getElem? hi)⟩
end
end Go.Proofs.Ytiacdakaolghmaa
