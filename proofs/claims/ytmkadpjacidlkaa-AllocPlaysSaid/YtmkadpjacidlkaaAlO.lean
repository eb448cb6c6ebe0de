/-
  Layer 8: arguments opened: calls of a table and of a device.
-/
import Derived.Test.YtmkadpjacidlkaaOpenB
import Derived.Lib.SmallJoins
namespace Go.Proofs.Ytmkadpjacidlkaa
set_option linter.unusedVariables false
open Go.Joins Go.ChangeShapes Go.WideShapes Go.ChangeAt Go.RowKit Go.Deep

/-- One call, as it lies in memory. -/
structure Op8 where
  k : Int
  z : Int
  n : Int
structure Op8At (w : World) (b o : Nat) (x : Op8) : Prop where
  c0 : w.cell? ⟨b, o, none⟩ = some (.int .i64 x.k)
  c1 : w.cell? ⟨b, o + 1, none⟩ = some (.int .i64 x.z)
  c2 : w.cell? ⟨b, o + 2, none⟩ = some (.int .i64 x.n)
  wk : (Lit.int .i64 x.k).wf = true
  wz : (Lit.int .i64 x.z).wf = true
  wn : (Lit.int .i64 x.n).wf = true
theorem Op8At.keep {w w' : World} {b o : Nat} {x : Op8} (h : Op8At w b o x) (f : Fr No w w') : Op8At w' b o x := ⟨f.cell h.c0 (fun h => h), f.cell h.c1 (fun h => h), f.cell h.c2 (fun h => h), h.wk, h.wz, h.wn⟩
def Op8s (w : World) (a : Option Addr) (l : List Op8) : Prop := 0 < l.length → ∃ b o, a = some ⟨b, o, none⟩ ∧ ∀ i x, l[i]? = some x → Op8At w b (o + i * 3) x
section
variable {H : Type} {enc : TypeId × Value → H} {w : World} {base : Nat} {spare : Nat → Bool} {held : Bool}
set_option maxRecDepth 20000 in
theorem ops8_of {fuel : Nat} {v : Value} {y : DataW H × List MemPlace} (h : DataW.trod enc Try.prog w base spare held fuel 22 [v] = some y) :
    ∃ a cap l, v = .slice a l.length cap ∧ l.length ≤ cap ∧ cap ≤ maxLen ∧ Op8s w a l := by
  rcases open_slice Try.underlying22 h with ⟨hcs, _⟩ | ⟨x, len, cap, m, n, D, Pl, hcs, _, hl, hm, hmm, _, hi⟩
  · cases hcs
    exact ⟨none, 0, [], rfl, Nat.le_refl _, by unfold maxLen; omega, fun h => absurd h (by simp)⟩
  · cases hcs
    have hml : len ≤ m := by rw [hmm]; split <;> omega
    have hc : Try.prog.cellsOf 33 = 3 := by kernel_rfl
    rw [hc] at hi
    obtain ⟨b, off, spot⟩ := x
    have hspot : 0 < len → spot = none := by
      intro h0
      obtain ⟨cs', h1, h2⟩ := hi 0 (by omega)
      obtain ⟨_, hcl, hat⟩ := World.cells?_some h1
      have h3 := hat 0 (by omega)
      rw [List.getElem?_eq_getElem (show 0 < cs'.length by omega)] at h3
      have := World.cell?_spot h3
      simpa [Addr.add] using this
    have hx : ∀ i, i < len → ∃ x : Op8, spot = none ∧ Op8At w b (off + i * 3) x := by
      intro i hil
      have hs := hspot (by omega)
      subst hs
      obtain ⟨cs', h1, h2⟩ := hi i (by omega)
      obtain ⟨_, hcl, hat⟩ := World.cells?_some h1
      obtain ⟨xs, n', hn', hy, hlen, hyl, hf⟩ := DataW.trod_struct Try.underlying33 h2
      have a0 := hat 0 (by omega)
      have a1 := hat 1 (by omega)
      have a2 := hat 2 (by omega)
      match cs', hcl with
      | [u0, u1, u2], _ =>
        rw [add_plain, add_plain] at a0 a1 a2
        have f0 := hf 0 _ rfl
        have f1 := hf 1 _ rfl
        have f2 := hf 2 _ rfl
        match xs, hyl with
        | [x0, x1, x2], _ =>
          obtain ⟨k, hk, _, wk⟩ := DataW.trod_int Try.underlying3 f0
          obtain ⟨n1, hn1, _, wn⟩ := DataW.trod_int Try.underlying3 f1
          obtain ⟨m1, hm1, _, wm⟩ := DataW.trod_int Try.underlying3 f2
          have e0 : u0 = .int .i64 k := by
            have : [u0] = [Value.int .i64 k] := hk
            simpa using this
          have e1 : u1 = .int .i64 n1 := by
            have : [u1] = [Value.int .i64 n1] := hn1
            simpa using this
          have e2 : u2 = .int .i64 m1 := by
            have : [u2] = [Value.int .i64 m1] := hm1
            simpa using this
          subst e0 e1 e2
          exact ⟨⟨k, n1, m1⟩, rfl, a0, a1, a2, wk, wn, wm⟩
    obtain ⟨l, hll, hlp⟩ := list_of len hx
    refine ⟨some ⟨b, off, spot⟩, cap, l, by rw [hll], by omega, hm, fun h0 => ?_⟩
    have hs : spot = none := (hlp 0 (l[0]'h0) (List.getElem?_eq_getElem h0)).1
    subst hs
    exact ⟨b, off, rfl, fun i x hx => (hlp i x hx).2⟩
end
end Go.Proofs.Ytmkadpjacidlkaa
