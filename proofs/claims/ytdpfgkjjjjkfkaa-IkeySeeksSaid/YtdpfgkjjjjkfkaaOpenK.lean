/-
  A key that came in, opened.
-/
import Derived.Test.YtdpfgkjjjjkfkaaOpenB
import Derived.Lib.SmallJoins
namespace Go.Proofs.Ytdpfgkjjjjkfkaa
set_option linter.unusedVariables false
open Go.Joins Go.ChangeShapes Go.WideShapes Go.ChangeAt Go.RowKit Go.Deep

theorem key_of {H : Type} {enc : TypeId × Value → H} {w : World} {base : Nat} {spare : Nat → Bool} {held : Bool} {r : Reach} {b0 : Nat} {v : Value} {d : DataW H} {p : List MemPlace}
    (hv : Value.okWide Try.prog w r b0 23 v) (h : DataW.Trod enc Try.prog w base spare held 23 v d p) :
    ∃ (s : ByteArray) (q k : Int), v = .agg #[.string s, .int .i64 q, .int .i64 k] ∧ s.size ≤ maxLen ∧ (Lit.int .i64 q).wf = true ∧ (Lit.int .i64 k).wf = true := by
  obtain ⟨v0, v1, v2, y0, y1, y2, n, rfl, _, _, h0, h1, h2⟩ := open_agg3 (Try.underlying23) (by kernel_rfl) (by kernel_rfl) hv h
  obtain ⟨s, e0, _, hs⟩ := DataW.trod_string Try.underlying9 h0
  obtain ⟨q, e1, _, wq⟩ := DataW.trod_int Try.underlying3 h1
  obtain ⟨k, e2, _, wk⟩ := DataW.trod_int Try.underlying3 h2
  simp only [List.cons.injEq, and_true] at e0 e1 e2
  subst e0 e1 e2
  exact ⟨s, q, k, rfl, hs, wq, wk⟩
end Go.Proofs.Ytdpfgkjjjjkfkaa
