/-
  Layer 12: pairs of texts in memory; a row of pairs that came in, opened; a row of pairs of the call's own. 'tithebarnref12.Pair' and 'block.Pair' are told apart by the type alone.
-/
import Derived.Test.YtiacdakaolghmaaOpenBy
import Derived.Test.YtiacdakaolghmaaMemG
import Derived.Lib.SmallJoins
namespace Go.Proofs.Ytiacdakaolghmaa
set_option linter.unusedVariables false
set_option maxRecDepth 20000
open Go.Joins Go.ChangeShapes Go.WideShapes Go.ChangeAt Go.RowKit Go.Deep

/-- A pair: its key and its value. -/
structure Pr where
  key : ByteArray
  val : ByteArray
def pr0 : Pr := ⟨ByteArray.empty, ByteArray.empty⟩
def prC (x : Pr) : List Value := [.string x.key, .string x.val]
def prV (x : Pr) : Value := .agg #[.string x.key, .string x.val]
def prsC (l : List Pr) : List Value := l.flatMap prC
def PrWf (x : Pr) : Prop := x.key.size ≤ maxLen ∧ x.val.size ≤ maxLen
structure PrAt (w : World) (b o : Nat) (x : Pr) : Prop where
  c0 : w.cell? ⟨b, o, none⟩ = some (.string x.key)
  c1 : w.cell? ⟨b, o + 1, none⟩ = some (.string x.val)
/-- PAIRS that are read, within blocks of S. -/
def Prs (w : World) (S : Nat → Prop) (a : Option Addr) (l : List Pr) : Prop :=
  0 < l.length → ∃ b o, S b ∧ a = some ⟨b, o, none⟩ ∧ ∀ i, i < l.length → PrAt w b (o + i * 2) (l.getD i pr0)
theorem Prs.nil (w : World) (S : Nat → Prop) (a : Option Addr) : Prs w S a [] := fun h => absurd h (by simp)
theorem PrAt.keep {w w' : World} {T : Nat → Prop} {b o : Nat} {x : Pr} (h : PrAt w b o x) (f : Fr T w w') (hn : ¬ T b) : PrAt w' b o x := ⟨f.cell h.c0 hn, f.cell h.c1 hn⟩
theorem Prs.keep {w w' : World} {S T : Nat → Prop} {a : Option Addr} {l : List Pr} (h : Prs w S a l) (f : Fr T w w') (hn : ∀ k, S k → ¬ T k) : Prs w' S a l := fun hl => by
  obtain ⟨b, o, hb, ha, hc⟩ := h hl
  exact ⟨b, o, hb, ha, fun i hi => (hc i hi).keep f (hn b hb)⟩
theorem Prs.sub {w : World} {S T : Nat → Prop} {a : Option Addr} {l : List Pr} (h : Prs w S a l) (hs : ∀ k, k < w.heap.size → S k → T k) : Prs w T a l := fun hl => by
  obtain ⟨b, o, hb, ha, hc⟩ := h hl
  exact ⟨b, o, hs b (cell_block (hc 0 hl).c0) hb, ha, hc⟩
theorem getD_pr (l : List Pr) (i : Nat) (h : i < l.length) : l.getD i pr0 = l[i] := by
  rw [List.getD_eq_getElem?_getD, List.getElem?_eq_getElem h]
  rfl
theorem getD_memPr (l : List Pr) (i : Nat) (h : i < l.length) : l.getD i pr0 ∈ l := by
  rw [getD_pr l i h]
  exact List.getElem_mem h
theorem take_pr (l : List Pr) (k : Nat) (h : k < l.length) : l.take (k + 1) = l.take k ++ [l.getD k pr0] := by
  rw [List.take_add_one, List.getElem?_eq_getElem h, getD_pr l k h]
  rfl
theorem prsC_length (l : List Pr) : (prsC l).length = l.length * 2 := by
  induction l with
  | nil => rfl
  | cons p l ih =>
    show (prC p ++ prsC l).length = _
    rw [List.length_append, ih, List.length_cons]
    simp [prC]
    omega
theorem prsC_get (l : List Pr) : ∀ i, i < l.length → (prsC l)[i * 2]? = some (.string (l.getD i pr0).key) ∧ (prsC l)[i * 2 + 1]? = some (.string (l.getD i pr0).val) := by
  induction l with
  | nil => intro i h; simp at h
  | cons p l ih =>
    intro i h
    have hl : (prC p).length = 2 := rfl
    have e : prsC (p :: l) = prC p ++ prsC l := rfl
    cases i with
    | zero => exact ⟨rfl, rfl⟩
    | succ i =>
      obtain ⟨h1, h2⟩ := ih i (by simpa using h)
      rw [e]
      refine ⟨?_, ?_⟩
      · rw [List.getElem?_append_right (by omega), show (i + 1) * 2 - (prC p).length = i * 2 by omega]; exact h1
      · rw [List.getElem?_append_right (by omega), show (i + 1) * 2 + 1 - (prC p).length = i * 2 + 1 by omega]; exact h2
theorem prsC_append (l m : List Pr) : prsC (l ++ m) = prsC l ++ prsC m := by simp [prsC]
/-- A row of pairs, of the call's own, as it is read. -/
theorem RowG.prs {w : World} {S : Nat → Prop} {e : TypeId} {v : Value} {l : List Pr} (h : RowG w S e 2 v l.length (prsC l)) : ∃ a cap, v = .slice a l.length cap ∧ l.length ≤ cap ∧ cap ≤ maxLen ∧ Prs w S a l := by
  obtain ⟨a, cap, rfl, h1, h2, _, h3⟩ := h.form
  refine ⟨a, cap, rfl, h1, h2, fun hl => ?_⟩
  obtain ⟨b, hb, rfl, hc⟩ := h3 hl
  refine ⟨b, 0, hb, rfl, fun i hi => ?_⟩
  obtain ⟨e1, e2⟩ := prsC_get l i hi
  rw [Nat.zero_add]
  exact ⟨(hc (i * 2) (by omega)).1.trans e1, (hc (i * 2 + 1) (by omega)).1.trans e2⟩
theorem push_pr {P : Program} {t e : TypeId} {z : Value} {n : Nat} (hT : RowT P t e z 2 n) (hn : n ≤ 1000) (W0 wr : World) (vo : Value) (m : Nat) (o : List Pr) (x : Pr) (hm : o.length = m) (hrow : RowG wr (Gr No W0 wr) e 2 vo m (prsC o)) (hfr : Fr No W0 wr) (hl : m ≤ 1000000) :
    ∃ v' w', (Builtin.append_ #[t, t] t #[vo, .slice (some ⟨wr.heap.size, 0, none⟩) 1 1]).run P (wr.alloc (.cells #[.string x.key, .string x.val] e)) = .ok v' w' ∧
      RowG w' (Gr No W0 w') e 2 v' (m + 1) (prsC (o ++ [x])) ∧ Fr No W0 w' := by
  subst hm
  have hb : (o.length + 1) * n ≤ 1000001 * 1000 := Nat.mul_le_mul (by omega) hn
  obtain ⟨v', w', h1, h2, h3⟩ := hrow.push hT (fun q hq => hq.elim (fun h => h.elim) (fun h => h.2)) (prC x) rfl (by intro u hu; simp [prC] at hu; rcases hu with rfl | rfl <;> rfl) (by omega) (by omega)
  refine ⟨v', w', h1, ?_, hfr.then_ h3 fun q hq h => h.elim (fun h => h) (fun h => absurd hq (by omega))⟩
  rw [prsC_append]
  have e : prsC [x] = prC x := by simp [prsC]
  rw [e]
  exact h2.join hfr.size h3.size

section
variable {H : Type} {enc : TypeId × Value → H} {w : World} {base : Nat} {spare : Nat → Bool} {held : Bool}
set_option maxRecDepth 20000 in
theorem prs_of {fuel : Nat} {v : Value} {y : DataW H × List MemPlace} (h : DataW.trod enc Try.prog w base spare held fuel 22 [v] = some y) :
    ∃ a cap l, v = .slice a l.length cap ∧ l.length ≤ cap ∧ cap ≤ maxLen ∧ Prs w (fun _ => True) a l ∧ ∀ x ∈ l, PrWf x := by
  rcases open_slice Try.underlying22 h with ⟨hcs, _⟩ | ⟨x, len, cap, m, n, D, Pl, hcs, _, hl, hm, hmm, _, hi⟩
  · cases hcs
    exact ⟨none, 0, [], rfl, Nat.le_refl _, by unfold maxLen; omega, fun h => absurd h (by simp), fun x h => absurd h (List.not_mem_nil)⟩
  · cases hcs
    have hml : len ≤ m := by rw [hmm]; split <;> omega
    have hc : Try.prog.cellsOf 39 = 2 := by kernel_rfl
    rw [hc] at hi
    obtain ⟨b, off, spot⟩ := x
    have hspot : 0 < len → spot = none := by
      intro h0
      obtain ⟨cs', h1, h2⟩ := hi 0 (by omega)
      obtain ⟨_, hcl, hat⟩ := World.cells?_some h1
      have h3 := hat 0 (by omega)
      rw [List.getElem?_eq_getElem (show 0 < cs'.length by omega)] at h3
      have := World.cell?_spot h3
      simpa [Addr.add] using this
    have hx : ∀ i, i < len → ∃ x : Pr, spot = none ∧ PrAt w b (off + i * 2) x ∧ PrWf x := by
      intro i hil
      have hs := hspot (by omega)
      subst hs
      obtain ⟨cs', h1, h2⟩ := hi i (by omega)
      obtain ⟨_, hcl, hat⟩ := World.cells?_some h1
      obtain ⟨xs, n', hn', hy, hlen, hyl, hf⟩ := DataW.trod_struct Try.underlying39 h2
      have a0 := hat 0 (by omega)
      have a1 := hat 1 (by omega)
      match cs', hcl with
      | [u0, u1], _ =>
        rw [add_plain, add_plain] at a0 a1
        have f0 := hf 0 _ rfl
        have f1 := hf 1 _ rfl
        match xs, hyl with
        | [x0, x1], _ =>
          obtain ⟨n0, hn0, _, w0⟩ := DataW.trod_string Try.underlying9 f0
          obtain ⟨n1, hn1, _, w1⟩ := DataW.trod_string Try.underlying9 f1
          have e0 : u0 = .string n0 := by
            have : [u0] = [Value.string n0] := hn0
            simpa using this
          have e1 : u1 = .string n1 := by
            have : [u1] = [Value.string n1] := hn1
            simpa using this
          subst e0 e1
          exact ⟨⟨n0, n1⟩, rfl, ⟨a0, a1⟩, w0, w1⟩
    obtain ⟨l, hll, hlp⟩ := list_of len hx
    refine ⟨some ⟨b, off, spot⟩, cap, l, by rw [hll], by omega, hm, fun h0 => ?_, ?_⟩
    · have hs : spot = none := (hlp 0 (l[0]'h0) (List.getElem?_eq_getElem h0)).1
      subst hs
      exact ⟨b, off, trivial, rfl, fun i hi => (hlp i _ (by rw [getD_pr l i hi]; exact List.getElem?_eq_getElem hi)).2.1⟩
    · intro x hx
      obtain ⟨i, hi, rfl⟩ := List.getElem_of_mem hx
      exact (hlp i _ (List.getElem?_eq_getElem hi)).2.2
end
end Go.Proofs.Ytiacdakaolghmaa
