/-
  Layer 11: batches in memory; batches that came in, opened.
-/
import Derived.Test.YtggjkpgkmohmdaaBaO
import Derived.Test.YtggjkpgkmohmdaaOpenB
namespace Go.Proofs.Ytggjkpgkmohmdaa
set_option linter.unusedVariables false
open Go.Joins Go.ChangeShapes Go.WideShapes Go.ChangeAt Go.RowKit Go.Deep

/-- A batch: its number, its ops, where they lie. -/
structure Bt where
  q : Int
  l : List Op10
  a : Option Addr
  c : Nat
def bt0 : Bt := ⟨0, [], none, 0⟩
structure BtIn (w : World) (S : Nat → Prop) (b o : Nat) (x : Bt) : Prop where
  c0 : w.cell? ⟨b, o, none⟩ = some (.int .i64 x.q)
  c1 : w.cell? ⟨b, o + 1, none⟩ = some (.slice x.a x.l.length x.c)
  ops : Ops w S x.a x.l
def BtWf (x : Bt) : Prop := (Lit.int .i64 x.q).wf = true ∧ x.l.length ≤ x.c ∧ x.c ≤ maxLen ∧ ∀ y ∈ x.l, OpWf y
/-- BATCHES that are read, within blocks of S. -/
def Bts (w : World) (S : Nat → Prop) (a : Option Addr) (l : List Bt) : Prop :=
  0 < l.length → ∃ b o, S b ∧ a = some ⟨b, o, none⟩ ∧ ∀ i, i < l.length → BtIn w S b (o + i * 2) (l.getD i bt0)
theorem BtIn.keep {w w' : World} {S T : Nat → Prop} {b o : Nat} {x : Bt} (h : BtIn w S b o x) (f : Fr T w w') (hb : ¬ T b) (hn : ∀ k, S k → ¬ T k) : BtIn w' S b o x := ⟨f.cell h.c0 hb, f.cell h.c1 hb, h.ops.keep f hn⟩
theorem Bts.keep {w w' : World} {S T : Nat → Prop} {a : Option Addr} {l : List Bt} (h : Bts w S a l) (f : Fr T w w') (hn : ∀ k, S k → ¬ T k) : Bts w' S a l := fun hl => by
  obtain ⟨b, o, hb, ha, hc⟩ := h hl
  exact ⟨b, o, hb, ha, fun i hi => (hc i hi).keep f (hn b hb) hn⟩
theorem Bts.sub {w : World} {S T : Nat → Prop} {a : Option Addr} {l : List Bt} (h : Bts w S a l) (hs : ∀ k, k < w.heap.size → S k → T k) : Bts w T a l := fun hl => by
  obtain ⟨b, o, hb, ha, hc⟩ := h hl
  exact ⟨b, o, hs b (cell_block (hc 0 hl).c0) hb, ha, fun i hi => ⟨(hc i hi).c0, (hc i hi).c1, (hc i hi).ops.sub hs⟩⟩
theorem getD_bt (l : List Bt) (i : Nat) (h : i < l.length) : l.getD i bt0 = l[i] := by
  rw [List.getD_eq_getElem?_getD, List.getElem?_eq_getElem h]
  rfl
theorem getD_memB (l : List Bt) (i : Nat) (h : i < l.length) : l.getD i bt0 ∈ l := by
  rw [getD_bt l i h]
  exact List.getElem_mem h
section
variable {H : Type} {enc : TypeId × Value → H} {w : World} {base : Nat} {spare : Nat → Bool} {held : Bool}
set_option maxRecDepth 20000 in
theorem batches_of {fuel : Nat} {v : Value} {y : DataW H × List MemPlace} (h : DataW.trod enc Try.prog w base spare held fuel 22 [v] = some y) :
    ∃ a cap l, v = .slice a l.length cap ∧ l.length ≤ cap ∧ cap ≤ maxLen ∧ Bts w (fun _ => True) a l ∧ ∀ x ∈ l, BtWf x := by
  rcases open_slice Try.underlying22 h with ⟨hcs, _⟩ | ⟨x, len, cap, m, n, D, Pl, hcs, _, hl, hm, hmm, _, hi⟩
  · cases hcs
    exact ⟨none, 0, [], rfl, Nat.le_refl _, by unfold maxLen; omega, fun h => absurd h (by simp), fun x h => absurd h (List.not_mem_nil)⟩
  · cases hcs
    have hml : len ≤ m := by rw [hmm]; split <;> omega
    have hc : Try.prog.cellsOf 58 = 2 := by kernel_rfl
    rw [hc] at hi
    obtain ⟨b, off, spot⟩ := x
    have hspot : 0 < len → spot = none := by
      intro h0
      obtain ⟨cs', h1, h2⟩ := hi 0 (by omega)
      obtain ⟨_, hcl, hat⟩ := World.cells?_some h1
      have h3 := hat 0 (by omega)
      rw [List.getElem?_eq_getElem (show 0 < cs'.length by omega)] at h3
      have := World.cell?_spot h3
      simpa [Addr.add] using this
    have hx : ∀ i, i < len → ∃ x : Bt, spot = none ∧ BtIn w (fun _ => True) b (off + i * 2) x ∧ BtWf x := by
      intro i hil
      have hs := hspot (by omega)
      subst hs
      obtain ⟨cs', h1, h2⟩ := hi i (by omega)
      obtain ⟨_, hcl, hat⟩ := World.cells?_some h1
      obtain ⟨xs, n', hn', hy, hlen, hyl, hf⟩ := DataW.trod_struct Try.underlying58 h2
      have a0 := hat 0 (by omega)
      have a1 := hat 1 (by omega)
      match cs', hcl with
      | [u0, u1], _ =>
        rw [add_plain, add_plain] at a0 a1
        have f0 := hf 0 _ rfl
        have f1 := hf 1 _ rfl
        match xs, hyl with
        | [x0, x1], _ =>
          obtain ⟨n0, hn0, _, w0⟩ := DataW.trod_int Try.underlying3 f0
          obtain ⟨a', c', l', e1, k1, k2, k3, k4⟩ := ops10_of f1
          have e0 : u0 = .int .i64 n0 := by
            have : [u0] = [Value.int .i64 n0] := hn0
            simpa using this
          subst e0
          have e1 : u1 = .slice a' l'.length c' := e1
          subst e1
          exact ⟨⟨n0, l', a', c'⟩, rfl, ⟨a0, a1, k3⟩, w0, k1, k2, k4⟩
    obtain ⟨l, hll, hlp⟩ := list_of len hx
    refine ⟨some ⟨b, off, spot⟩, cap, l, by rw [hll], by omega, hm, fun h0 => ?_, ?_⟩
    · have hs : spot = none := (hlp 0 (l[0]'h0) (List.getElem?_eq_getElem h0)).1
      subst hs
      exact ⟨b, off, trivial, rfl, fun i hi => (hlp i _ (by rw [getD_bt l i hi]; exact List.getElem?_eq_getElem hi)).2.1⟩
    · intro x hx
      obtain ⟨i, hi, rfl⟩ := List.getElem_of_mem hx
      exact (hlp i _ (List.getElem?_eq_getElem hi)).2.2
set_option maxRecDepth 20000 in
theorem filled11_of {r : Reach} {b0 : Nat} {v : Value} {d : DataW H} {p : List MemPlace}
    (hv : Value.okWide Try.prog w r b0 25 v) (h : DataW.Trod enc Try.prog w base spare held 25 v d p) :
    ∃ (a : Option Addr) (cap : Nat) (l : List Bt) (a' : Option Addr) (cap' : Nat) (l' : List Int) (u : ByteArray) (at_ : Int), v = .agg #[.slice a l.length cap, .slice a' l'.length cap', .string u, .int .i64 at_] ∧ l.length ≤ cap ∧ cap ≤ maxLen ∧ Bts w (fun _ => True) a l ∧ (∀ x ∈ l, BtWf x) ∧
      l'.length ≤ cap' ∧ cap' ≤ maxLen ∧ Ints w a' l' ∧ u.size ≤ maxLen ∧ (Lit.int .i64 at_).wf = true := by
  obtain ⟨v0, v1, v2, v3, y0, y1, y2, y3, n, rfl, _, _, h0, h1, h2, h3⟩ := open_agg4 (Try.underlying25) (by kernel_rfl) (by kernel_rfl) hv h
  obtain ⟨a, cap, l, e0, hc, hm, hx, hw⟩ := batches_of h0
  obtain ⟨a', cap', l', e1, hc', hm', hx'⟩ := ints_of h1
  obtain ⟨u, e2, _, wu⟩ := DataW.trod_string Try.underlying9 h2
  obtain ⟨at_, e3, _, w3⟩ := DataW.trod_int Try.underlying3 h3
  simp only [List.cons.injEq, and_true] at e2 e3
  subst e0 e1 e2 e3
  exact ⟨a, cap, l, a', cap', l', u, at_, rfl, hc, hm, hx, hw, hc', hm', hx', wu, w3⟩
end
end Go.Proofs.Ytggjkpgkmohmdaa
