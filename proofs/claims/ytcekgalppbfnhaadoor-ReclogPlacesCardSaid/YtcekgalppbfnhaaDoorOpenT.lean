/-
  Arguments opened: slices of bytes' slices; and that they read on as long as what was there stays.
-/
import Derived.Test.YtcekgalppbfnhaaDoorOpenB
namespace Go.Proofs.YtcekgalppbfnhaaDoor
set_option linter.unusedVariables false
open Go.ChangeShapes Go.WideShapes Go.ChangeAt Go.RowKit Go.Deep

/-- Texts. -/
structure Tx where
  a : Option Addr
  c : Nat
  b : List UInt8
structure TxAt (w : World) (b o : Nat) (x : Tx) : Prop where
  c0 : w.cell? ⟨b, o, none⟩ = some (.slice x.a x.b.length x.c)
  le : x.b.length ≤ x.c
  cm : x.c ≤ maxLen
  rd : Rd w x.a x.b
theorem TxAt.keep {w w' : World} {b o : Nat} {x : Tx} (h : TxAt w b o x) (f : Fr No w w') : TxAt w' b o x :=
  ⟨f.cell h.c0 (fun h => h), h.le, h.cm, h.rd.keep f⟩
def Texts (w : World) (a : Option Addr) (l : List Tx) : Prop := 0 < l.length → ∃ b o, a = some ⟨b, o, none⟩ ∧ ∀ i x, l[i]? = some x → TxAt w b (o + i) x
theorem Texts.keep {w w' : World} {a : Option Addr} {l : List Tx} (h : Texts w a l) (f : Fr No w w') : Texts w' a l := fun hl => by
  obtain ⟨b, o, ha, hx⟩ := h hl
  exact ⟨b, o, ha, fun i x hi => (hx i x hi).keep f⟩
section
variable {H : Type} {enc : TypeId × Value → H} {w : World} {base : Nat} {spare : Nat → Bool} {held : Bool}
theorem texts_of {fuel : Nat} {v : Value} {y : DataW H × List MemPlace} (h : DataW.trod enc Tryd.prog w base spare held fuel 25 [v] = some y) :
    ∃ a cap l, v = .slice a l.length cap ∧ l.length ≤ cap ∧ cap ≤ maxLen ∧ Texts w a l := by
  rcases open_slice Tryd.underlying25 h with ⟨hcs, _⟩ | ⟨x, len, cap, m, n, D, Pl, hcs, _, hl, hm, hmm, _, hi⟩
  · cases hcs
    exact ⟨none, 0, [], rfl, Nat.le_refl _, by simp [maxLen], fun h => absurd h (by simp)⟩
  · cases hcs
    have hml : len ≤ m := by rw [hmm]; split <;> omega
    have hc : Tryd.prog.cellsOf 22 = 1 := by kernel_rfl
    rw [hc] at hi
    obtain ⟨b, off, spot⟩ := x
    have hspot : 0 < len → spot = none := by
      intro h0
      obtain ⟨cs', h1, h2⟩ := hi 0 (by omega)
      obtain ⟨_, hcl, hat⟩ := World.cells?_some h1
      have h3 := hat 0 (by omega)
      rw [List.getElem?_eq_getElem (show 0 < cs'.length by omega)] at h3
      have := World.cell?_spot h3
      simpa [Addr.add] using this
    have hx : ∀ i, i < len → ∃ x : Tx, spot = none ∧ TxAt w b (off + i) x := by
      intro i hil
      have hs := hspot (by omega)
      subst hs
      obtain ⟨cs', h1, h2⟩ := hi i (by omega)
      obtain ⟨_, hcl, hat⟩ := World.cells?_some h1
      have h3 := hat 0 (by omega)
      match cs', hcl with
      | [u], _ =>
        obtain ⟨a, c, l, rfl, g1, g2, g3⟩ := bytes_of h2
        rw [add_plain, add_plain] at h3
        have h4 : w.cell? ⟨b, off + i, none⟩ = some (.slice a l.length c) := by simpa using h3
        exact ⟨⟨a, c, l⟩, rfl, h4, g1, g2, g3⟩
    obtain ⟨l, hll, hlp⟩ := list_of len hx
    refine ⟨some ⟨b, off, spot⟩, cap, l, by rw [hll], by omega, hm, fun h0 => ?_⟩
    have hs : spot = none := (hlp 0 (l[0]'h0) (List.getElem?_eq_getElem h0)).1
    subst hs
    exact ⟨b, off, rfl, fun i x hx => (hlp i x hx).2⟩
end
end Go.Proofs.YtcekgalppbfnhaaDoor
