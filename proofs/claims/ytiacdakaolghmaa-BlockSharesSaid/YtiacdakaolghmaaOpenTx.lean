/-
  A text that came in, opened.
-/
import Derived.Test.YtiacdakaolghmaaOpenBy
namespace Go.Proofs.Ytiacdakaolghmaa
set_option linter.unusedVariables false
set_option maxRecDepth 20000
open Go.ChangeShapes Go.WideShapes Go.ChangeAt Go.RowKit Go.Deep

section
variable {H : Type} {enc : TypeId × Value → H} {w : World} {base : Nat} {spare : Nat → Bool} {held : Bool}
theorem text_of {r : Reach} {b0 : Nat} {v : Value} {d : DataW H} {p : List MemPlace}
    (hv : Value.okWide Try.prog w r b0 9 v) (h : DataW.Trod enc Try.prog w base spare held 9 v d p) : ∃ s : ByteArray, v = .string s ∧ s.size ≤ maxLen := by
  obtain ⟨s, rfl⟩ := okWide_string Try.underlying9 hv
  obtain ⟨fuel, hf⟩ := h
  obtain ⟨s', e, _, hs⟩ := DataW.trod_string Try.underlying9 hf
  have e' : [Value.string s] = [Value.string s'] := e
  simp only [List.cons.injEq, Value.string.injEq, and_true] at e'
  exact ⟨s, rfl, e' ▸ hs⟩
end
end Go.Proofs.Ytiacdakaolghmaa
