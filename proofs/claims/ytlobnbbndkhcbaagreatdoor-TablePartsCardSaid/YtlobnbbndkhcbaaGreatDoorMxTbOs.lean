/-
  Layer 13: the laws' structs that came in, opened.
-/
import Derived.Test.YtlobnbbndkhcbaaGreatDoorMg15
namespace Go.Proofs.YtlobnbbndkhcbaaGreatDoor
set_option linter.unusedVariables false
open Go.Joins Go.ChangeShapes Go.WideShapes Go.ChangeAt Go.RowKit Go.Deep

section
variable {H : Type} {enc : TypeId × Value → H} {w : World} {base : Nat} {spare : Nat → Bool} {held : Bool}
set_option maxRecDepth 100000 in
theorem sought_of {r : Reach} {b0 : Nat} {v : Value} {d : DataW H} {p : List MemPlace}
    (hv : Value.okWide Tryz.prog w r b0 52 v) (h : DataW.Trod enc Tryz.prog w base spare held 52 v d p) :
    ∃ (a : Option Addr) (cap : Nat) (l : List Ent) (o : Opt) (u : ByteArray) (at_ : Int), v = .agg #[.slice a l.length cap, .int .i64 o.b, .int .i64 o.e, .int .i64 o.n, .string u, .int .i64 at_] ∧ l.length ≤ cap ∧ cap ≤ maxLen ∧ Ents w (fun _ => True) a l ∧ (∀ x ∈ l, EntWf x) ∧ OptWf o ∧ u.size ≤ maxLen ∧ (Lit.int .i64 at_).wf = true := by
  obtain ⟨cs, rfl, hsz⟩ := okWide_struct Tryz.underlying52 hv
  have hsz6 : cs.size = 6 := hsz.trans (by kernel_rfl)
  obtain ⟨fuel, hf⟩ := h
  obtain ⟨cl⟩ := cs
  match cl, hsz6 with
  | [u0, u1, u2, u3, u4, u5], _ =>
    have hf : DataW.trod enc Tryz.prog w base spare held fuel 52 [u0, u1, u2, u3, u4, u5] = some (d, p) := hf
    obtain ⟨xs, n', hn', hy, hlen, hyl, hff⟩ := DataW.trod_struct Tryz.underlying52 hf
    have k0 := hff 0 _ rfl
    have k1 := hff 1 _ rfl
    have k2 := hff 2 _ rfl
    have k3 := hff 3 _ rfl
    match xs, hyl with
    | [x0, x1, x2, x3], _ =>
      obtain ⟨a, cap, l, e0, g1, g2, g3, g4⟩ := ents_of k0
      obtain ⟨o, e1, e2, e3, go⟩ := opt_cells k1
      obtain ⟨m4, hm4, _, w4⟩ := DataW.trod_string Tryz.underlying9 k2
      obtain ⟨m5, hm5, _, w5⟩ := DataW.trod_int Tryz.underlying3 k3
      have e0 : u0 = .slice a l.length cap := e0
      have e4 : u4 = .string m4 := by
        have : [u4] = [Value.string m4] := hm4
        simpa using this
      have e5 : u5 = .int .i64 m5 := by
        have : [u5] = [Value.int .i64 m5] := hm5
        simpa using this
      subst e0 e1 e2 e3 e4 e5
      exact ⟨a, cap, l, o, m4, m5, rfl, g1, g2, g3, g4, go, w4, w5⟩
set_option maxRecDepth 100000 in
theorem parted_of {r : Reach} {b0 : Nat} {v : Value} {d : DataW H} {p : List MemPlace}
    (hv : Value.okWide Tryz.prog w r b0 63 v) (h : DataW.Trod enc Tryz.prog w base spare held 63 v d p) :
    ∃ (a : Option Addr) (cap : Nat) (l : List Ent) (cut : Int) (u : ByteArray) (at_ : Int), v = .agg #[.slice a l.length cap, .int .i64 cut, .string u, .int .i64 at_] ∧ l.length ≤ cap ∧ cap ≤ maxLen ∧ Ents w (fun _ => True) a l ∧ (∀ x ∈ l, EntWf x) ∧ (Lit.int .i64 cut).wf = true ∧ u.size ≤ maxLen ∧ (Lit.int .i64 at_).wf = true := by
  obtain ⟨v0, v1, v2, v3, y0, y1, y2, y3, n, rfl, _, _, h0, h1, h2, h3⟩ := open_agg4 (Tryz.underlying63) (by kernel_rfl) (by kernel_rfl) hv h
  obtain ⟨a, cap, l, e0, hc, hm, hx, hw⟩ := ents_of h0
  obtain ⟨cut, e1, _, w1⟩ := DataW.trod_int Tryz.underlying3 h1
  obtain ⟨u, e2, _, wu⟩ := DataW.trod_string Tryz.underlying9 h2
  obtain ⟨at_, e3, _, w3⟩ := DataW.trod_int Tryz.underlying3 h3
  simp only [List.cons.injEq, and_true] at e1 e2 e3
  subst e0 e1 e2 e3
  exact ⟨a, cap, l, cut, u, at_, rfl, hc, hm, hx, hw, w1, wu, w3⟩
end
end Go.Proofs.YtlobnbbndkhcbaaGreatDoor
