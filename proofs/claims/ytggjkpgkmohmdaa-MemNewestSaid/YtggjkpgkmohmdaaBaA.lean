/-
  Layer 10: ops in memory; an op and a batch that came in, opened; a row of ops of the call's own.
-/
import Derived.Test.YtggjkpgkmohmdaaOpenBy
import Derived.Test.YtggjkpgkmohmdaaMemG
import Derived.Lib.SmallJoins
namespace Go.Proofs.Ytggjkpgkmohmdaa
set_option linter.unusedVariables false
set_option maxRecDepth 20000
open Go.Joins Go.ChangeShapes Go.WideShapes Go.ChangeAt Go.RowKit Go.Deep

/-- An op: its kind, key and value. -/
structure Op10 where
  k : Int
  key : ByteArray
  val : ByteArray
def op0 : Op10 := ⟨0, ByteArray.empty, ByteArray.empty⟩
def opC (x : Op10) : List Value := [.int .i64 x.k, .string x.key, .string x.val]
def opV (x : Op10) : Value := .agg #[.int .i64 x.k, .string x.key, .string x.val]
def opsC (l : List Op10) : List Value := l.flatMap opC
def OpWf (x : Op10) : Prop := (Lit.int .i64 x.k).wf = true ∧ x.key.size ≤ maxLen ∧ x.val.size ≤ maxLen
structure OpAt (w : World) (b o : Nat) (x : Op10) : Prop where
  c0 : w.cell? ⟨b, o, none⟩ = some (.int .i64 x.k)
  c1 : w.cell? ⟨b, o + 1, none⟩ = some (.string x.key)
  c2 : w.cell? ⟨b, o + 2, none⟩ = some (.string x.val)
/-- OPS that are read, within blocks of S. -/
def Ops (w : World) (S : Nat → Prop) (a : Option Addr) (l : List Op10) : Prop :=
  0 < l.length → ∃ b o, S b ∧ a = some ⟨b, o, none⟩ ∧ ∀ i, i < l.length → OpAt w b (o + i * 3) (l.getD i op0)
theorem Ops.nil (w : World) (S : Nat → Prop) (a : Option Addr) : Ops w S a [] := fun h => absurd h (by simp)
theorem OpAt.keep {w w' : World} {T : Nat → Prop} {b o : Nat} {x : Op10} (h : OpAt w b o x) (f : Fr T w w') (hn : ¬ T b) : OpAt w' b o x := ⟨f.cell h.c0 hn, f.cell h.c1 hn, f.cell h.c2 hn⟩
theorem Ops.keep {w w' : World} {S T : Nat → Prop} {a : Option Addr} {l : List Op10} (h : Ops w S a l) (f : Fr T w w') (hn : ∀ k, S k → ¬ T k) : Ops w' S a l := fun hl => by
  obtain ⟨b, o, hb, ha, hc⟩ := h hl
  exact ⟨b, o, hb, ha, fun i hi => (hc i hi).keep f (hn b hb)⟩
theorem Ops.sub {w : World} {S T : Nat → Prop} {a : Option Addr} {l : List Op10} (h : Ops w S a l) (hs : ∀ k, k < w.heap.size → S k → T k) : Ops w T a l := fun hl => by
  obtain ⟨b, o, hb, ha, hc⟩ := h hl
  exact ⟨b, o, hs b (cell_block (hc 0 hl).c0) hb, ha, hc⟩
theorem opsC_length (l : List Op10) : (opsC l).length = l.length * 3 := by
  induction l with
  | nil => rfl
  | cons p l ih =>
    show (opC p ++ opsC l).length = _
    rw [List.length_append, ih, List.length_cons]
    simp [opC]
    omega
theorem opsC_get (l : List Op10) : ∀ i, i < l.length → (opsC l)[i * 3]? = some (.int .i64 (l.getD i op0).k) ∧ (opsC l)[i * 3 + 1]? = some (.string (l.getD i op0).key) ∧ (opsC l)[i * 3 + 2]? = some (.string (l.getD i op0).val) := by
  induction l with
  | nil => intro i h; simp at h
  | cons p l ih =>
    intro i h
    have hl : (opC p).length = 3 := rfl
    have e : opsC (p :: l) = opC p ++ opsC l := rfl
    cases i with
    | zero => exact ⟨rfl, rfl, rfl⟩
    | succ i =>
      obtain ⟨h1, h2, h3⟩ := ih i (by simpa using h)
      rw [e]
      refine ⟨?_, ?_, ?_⟩
      · rw [List.getElem?_append_right (by omega), show (i + 1) * 3 - (opC p).length = i * 3 by omega]; exact h1
      · rw [List.getElem?_append_right (by omega), show (i + 1) * 3 + 1 - (opC p).length = i * 3 + 1 by omega]; exact h2
      · rw [List.getElem?_append_right (by omega), show (i + 1) * 3 + 2 - (opC p).length = i * 3 + 2 by omega]; exact h3
theorem opsC_append (l m : List Op10) : opsC (l ++ m) = opsC l ++ opsC m := by simp [opsC]
/-- A row of ops, of the call's own, as it is read. -/
theorem RowG.ops {w : World} {S : Nat → Prop} {e : TypeId} {v : Value} {l : List Op10} (h : RowG w S e 3 v l.length (opsC l)) : ∃ a cap, v = .slice a l.length cap ∧ l.length ≤ cap ∧ cap ≤ maxLen ∧ Ops w S a l := by
  obtain ⟨a, cap, rfl, h1, h2, _, h3⟩ := h.form
  refine ⟨a, cap, rfl, h1, h2, fun hl => ?_⟩
  obtain ⟨b, hb, rfl, hc⟩ := h3 hl
  refine ⟨b, 0, hb, rfl, fun i hi => ?_⟩
  obtain ⟨e1, e2, e3⟩ := opsC_get l i hi
  rw [Nat.zero_add]
  exact ⟨(hc (i * 3) (by omega)).1.trans e1, (hc (i * 3 + 1) (by omega)).1.trans e2, (hc (i * 3 + 2) (by omega)).1.trans e3⟩
theorem push_op {P : Program} {t e : TypeId} {z : Value} {n : Nat} (hT : RowT P t e z 3 n) (hn : n ≤ 1000) (W0 wr : World) (vo : Value) (o : List Op10) (x : Op10) (hrow : RowG wr (Gr No W0 wr) e 3 vo o.length (opsC o)) (hfr : Fr No W0 wr) (hl : o.length ≤ 1000000) :
    ∃ v' w', (Builtin.append_ #[t, t] t #[vo, .slice (some ⟨wr.heap.size, 0, none⟩) 1 1]).run P (wr.alloc (.cells #[.int .i64 x.k, .string x.key, .string x.val] e)) = .ok v' w' ∧
      RowG w' (Gr No W0 w') e 3 v' (o ++ [x]).length (opsC (o ++ [x])) ∧ Fr No W0 w' := by
  have hb : (o.length + 1) * n ≤ 1000001 * 1000 := Nat.mul_le_mul (by omega) hn
  obtain ⟨v', w', h1, h2, h3⟩ := hrow.push hT (fun q hq => hq.elim (fun h => h.elim) (fun h => h.2)) (opC x) rfl (by intro u hu; simp [opC] at hu; rcases hu with rfl | rfl | rfl <;> rfl) (by omega) (by omega)
  refine ⟨v', w', h1, ?_, hfr.then_ h3 fun q hq h => h.elim (fun h => h) (fun h => absurd hq (by omega))⟩
  rw [List.length_append, opsC_append]
  have e : opsC [x] = opC x := by simp [opsC]
  rw [e]
  exact h2.join hfr.size h3.size
theorem getD_op (l : List Op10) (i : Nat) (h : i < l.length) : l.getD i op0 = l[i] := by
  rw [List.getD_eq_getElem?_getD, List.getElem?_eq_getElem h]
  rfl

section
variable {H : Type} {enc : TypeId × Value → H} {w : World} {base : Nat} {spare : Nat → Bool} {held : Bool}
theorem text_of {r : Reach} {b0 : Nat} {v : Value} {d : DataW H} {p : List MemPlace}
    (hv : Value.okWide Try.prog w r b0 9 v) (h : DataW.Trod enc Try.prog w base spare held 9 v d p) : ∃ s : ByteArray, v = .string s ∧ s.size ≤ maxLen := by
  obtain ⟨s, rfl⟩ := okWide_string Try.underlying9 hv
  obtain ⟨fuel, hf⟩ := h
  obtain ⟨s', e, _, hs⟩ := DataW.trod_string Try.underlying9 hf
  have e' : [Value.string s] = [Value.string s'] := e
  simp only [List.cons.injEq, Value.string.injEq, and_true] at e'
  exact ⟨s, rfl, e' ▸ hs⟩
theorem op10_of {r : Reach} {b0 : Nat} {v : Value} {d : DataW H} {p : List MemPlace}
    (hv : Value.okWide Try.prog w r b0 53 v) (h : DataW.Trod enc Try.prog w base spare held 53 v d p) :
    ∃ x : Op10, v = opV x ∧ OpWf x := by
  obtain ⟨v0, v1, v2, y0, y1, y2, n, rfl, _, _, h0, h1, h2⟩ := open_agg3 (Try.underlying53) (by kernel_rfl) (by kernel_rfl) hv h
  obtain ⟨z, e0, _, wz⟩ := DataW.trod_int Try.underlying3 h0
  obtain ⟨s, e1, _, ws⟩ := DataW.trod_string Try.underlying9 h1
  obtain ⟨o, e2, _, wo⟩ := DataW.trod_string Try.underlying9 h2
  simp only [List.cons.injEq, and_true] at e0 e1 e2
  subst e0 e1 e2
  exact ⟨⟨z, s, o⟩, rfl, wz, ws, wo⟩
set_option maxRecDepth 20000 in
theorem ops10_of {fuel : Nat} {v : Value} {y : DataW H × List MemPlace} (h : DataW.trod enc Try.prog w base spare held fuel 56 [v] = some y) :
    ∃ a cap l, v = .slice a l.length cap ∧ l.length ≤ cap ∧ cap ≤ maxLen ∧ Ops w (fun _ => True) a l ∧ ∀ x ∈ l, OpWf x := by
  rcases open_slice Try.underlying56 h with ⟨hcs, _⟩ | ⟨x, len, cap, m, n, D, Pl, hcs, _, hl, hm, hmm, _, hi⟩
  · cases hcs
    exact ⟨none, 0, [], rfl, Nat.le_refl _, by unfold maxLen; omega, fun h => absurd h (by simp), fun x h => absurd h (List.not_mem_nil)⟩
  · cases hcs
    have hml : len ≤ m := by rw [hmm]; split <;> omega
    have hc : Try.prog.cellsOf 53 = 3 := by kernel_rfl
    rw [hc] at hi
    obtain ⟨b, off, spot⟩ := x
    have hspot : 0 < len → spot = none := by
      intro h0
      obtain ⟨cs', h1, h2⟩ := hi 0 (by omega)
      obtain ⟨_, hcl, hat⟩ := World.cells?_some h1
      have h3 := hat 0 (by omega)
      rw [List.getElem?_eq_getElem (show 0 < cs'.length by omega)] at h3
      have := World.cell?_spot h3
      simpa [Addr.add] using this
    have hx : ∀ i, i < len → ∃ x : Op10, spot = none ∧ OpAt w b (off + i * 3) x ∧ OpWf x := by
      intro i hil
      have hs := hspot (by omega)
      subst hs
      obtain ⟨cs', h1, h2⟩ := hi i (by omega)
      obtain ⟨_, hcl, hat⟩ := World.cells?_some h1
      obtain ⟨xs, n', hn', hy, hlen, hyl, hf⟩ := DataW.trod_struct Try.underlying53 h2
      have a0 := hat 0 (by omega)
      have a1 := hat 1 (by omega)
      have a2 := hat 2 (by omega)
      match cs', hcl with
      | [u0, u1, u2], _ =>
        rw [add_plain, add_plain] at a0 a1 a2
        have f0 := hf 0 _ rfl
        have f1 := hf 1 _ rfl
        have f2 := hf 2 _ rfl
        match xs, hyl with
        | [x0, x1, x2], _ =>
          obtain ⟨n0, hn0, _, w0⟩ := DataW.trod_int Try.underlying3 f0
          obtain ⟨n1, hn1, _, w1⟩ := DataW.trod_string Try.underlying9 f1
          obtain ⟨n2, hn2, _, w2⟩ := DataW.trod_string Try.underlying9 f2
          have e0 : u0 = .int .i64 n0 := by
            have : [u0] = [Value.int .i64 n0] := hn0
            simpa using this
          have e1 : u1 = .string n1 := by
            have : [u1] = [Value.string n1] := hn1
            simpa using this
          have e2 : u2 = .string n2 := by
            have : [u2] = [Value.string n2] := hn2
            simpa using this
          subst e0 e1 e2
          exact ⟨⟨n0, n1, n2⟩, rfl, ⟨a0, a1, a2⟩, w0, w1, w2⟩
    obtain ⟨l, hll, hlp⟩ := list_of len hx
    refine ⟨some ⟨b, off, spot⟩, cap, l, by rw [hll], by omega, hm, fun h0 => ?_, ?_⟩
    · have hs : spot = none := (hlp 0 (l[0]'h0) (List.getElem?_eq_getElem h0)).1
      subst hs
      exact ⟨b, off, trivial, rfl, fun i hi => (hlp i _ (by rw [getD_op l i hi]; exact List.getElem?_eq_getElem hi)).2.1⟩
    · intro x hx
      obtain ⟨i, hi, rfl⟩ := List.getElem_of_mem hx
      exact (hlp i _ (List.getElem?_eq_getElem hi)).2.2
theorem batch_of {r : Reach} {b0 : Nat} {v : Value} {d : DataW H} {p : List MemPlace}
    (hv : Value.okWide Try.prog w r b0 58 v) (h : DataW.Trod enc Try.prog w base spare held 58 v d p) :
    ∃ (q : Int) (a : Option Addr) (cap : Nat) (l : List Op10), v = .agg #[.int .i64 q, .slice a l.length cap] ∧ (Lit.int .i64 q).wf = true ∧ l.length ≤ cap ∧ cap ≤ maxLen ∧ Ops w (fun _ => True) a l ∧ ∀ x ∈ l, OpWf x := by
  obtain ⟨v0, v1, y0, y1, n, rfl, _, _, h0, h1⟩ := open_agg2 (Try.underlying58) (by kernel_rfl) (by kernel_rfl) hv h
  obtain ⟨q, e0, _, wq⟩ := DataW.trod_int Try.underlying3 h0
  obtain ⟨a, cap, l, rfl, h2, h3, h4, h5⟩ := ops10_of h1
  simp only [List.cons.injEq, and_true] at e0
  subst e0
  exact ⟨q, a, cap, l, rfl, wq, h2, h3, h4, h5⟩
end
end Go.Proofs.Ytggjkpgkmohmdaa
