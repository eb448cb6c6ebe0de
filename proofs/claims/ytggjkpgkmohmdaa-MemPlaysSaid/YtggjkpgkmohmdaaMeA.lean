/-
  Layer 11: entries in memory; a row of entries of the call's own; their order. 'tithebarnref11.Entry' and 'mem.Entry' are told apart by the type alone.
-/
import Derived.Test.YtggjkpgkmohmdaaMemG
import Derived.Test.YtggjkpgkmohmdaaIkN
import Derived.Lib.Hide
import Derived.Handy
namespace Go.Proofs.Ytggjkpgkmohmdaa
set_option linter.unusedVariables false
open Go.RowKit

/-- An entry: a user's key, its number, its kind, and the value. -/
structure Ent where
  u : ByteArray
  q : Int
  k : Int
  val : ByteArray
def ent0 : Ent := ⟨ByteArray.empty, 0, 0, ByteArray.empty⟩
def entC (x : Ent) : List Value := [.string x.u, .int .i64 x.q, .int .i64 x.k, .string x.val]
def entV (x : Ent) : Value := .agg #[.string x.u, .int .i64 x.q, .int .i64 x.k, .string x.val]
def entsC (l : List Ent) : List Value := l.flatMap entC
def EntWf (x : Ent) : Prop := x.u.size ≤ maxLen ∧ (Lit.int .i64 x.q).wf = true ∧ (Lit.int .i64 x.k).wf = true ∧ x.val.size ≤ maxLen
structure EntAt (w : World) (b o : Nat) (x : Ent) : Prop where
  c0 : w.cell? ⟨b, o, none⟩ = some (.string x.u)
  c1 : w.cell? ⟨b, o + 1, none⟩ = some (.int .i64 x.q)
  c2 : w.cell? ⟨b, o + 2, none⟩ = some (.int .i64 x.k)
  c3 : w.cell? ⟨b, o + 3, none⟩ = some (.string x.val)
/-- ENTRIES that are read, within blocks of S. -/
def Ents (w : World) (S : Nat → Prop) (a : Option Addr) (l : List Ent) : Prop :=
  0 < l.length → ∃ b o, S b ∧ a = some ⟨b, o, none⟩ ∧ ∀ i, i < l.length → EntAt w b (o + i * 4) (l.getD i ent0)
theorem Ents.nil (w : World) (S : Nat → Prop) (a : Option Addr) : Ents w S a [] := fun h => absurd h (by simp)
theorem EntAt.keep {w w' : World} {T : Nat → Prop} {b o : Nat} {x : Ent} (h : EntAt w b o x) (f : Fr T w w') (hn : ¬ T b) : EntAt w' b o x := ⟨f.cell h.c0 hn, f.cell h.c1 hn, f.cell h.c2 hn, f.cell h.c3 hn⟩
theorem Ents.keep {w w' : World} {S T : Nat → Prop} {a : Option Addr} {l : List Ent} (h : Ents w S a l) (f : Fr T w w') (hn : ∀ k, S k → ¬ T k) : Ents w' S a l := fun hl => by
  obtain ⟨b, o, hb, ha, hc⟩ := h hl
  exact ⟨b, o, hb, ha, fun i hi => (hc i hi).keep f (hn b hb)⟩
theorem Ents.sub {w : World} {S T : Nat → Prop} {a : Option Addr} {l : List Ent} (h : Ents w S a l) (hs : ∀ k, k < w.heap.size → S k → T k) : Ents w T a l := fun hl => by
  obtain ⟨b, o, hb, ha, hc⟩ := h hl
  exact ⟨b, o, hs b (cell_block (hc 0 hl).c0) hb, ha, hc⟩
theorem getD_ent (l : List Ent) (i : Nat) (h : i < l.length) : l.getD i ent0 = l[i] := by
  rw [List.getD_eq_getElem?_getD, List.getElem?_eq_getElem h]
  rfl
theorem getD_memE (l : List Ent) (i : Nat) (h : i < l.length) : l.getD i ent0 ∈ l := by
  rw [getD_ent l i h]
  exact List.getElem_mem h
theorem take_ent (l : List Ent) (k : Nat) (h : k < l.length) : l.take (k + 1) = l.take k ++ [l.getD k ent0] := by
  rw [List.take_add_one, List.getElem?_eq_getElem h, getD_ent l k h]
  rfl
theorem drop_ent (l : List Ent) (k : Nat) (h : k < l.length) : l.drop k = l.getD k ent0 :: l.drop (k + 1) := by
  rw [getD_ent l k h]
  exact List.drop_eq_getElem_cons h
theorem entsC_length (l : List Ent) : (entsC l).length = l.length * 4 := by
  induction l with
  | nil => rfl
  | cons p l ih =>
    show (entC p ++ entsC l).length = _
    rw [List.length_append, ih, List.length_cons]
    simp [entC]
    omega
theorem entsC_get (l : List Ent) : ∀ i, i < l.length → (entsC l)[i * 4]? = some (.string (l.getD i ent0).u) ∧ (entsC l)[i * 4 + 1]? = some (.int .i64 (l.getD i ent0).q) ∧ (entsC l)[i * 4 + 2]? = some (.int .i64 (l.getD i ent0).k) ∧ (entsC l)[i * 4 + 3]? = some (.string (l.getD i ent0).val) := by
  induction l with
  | nil => intro i h; simp at h
  | cons p l ih =>
    intro i h
    have hl : (entC p).length = 4 := rfl
    have e : entsC (p :: l) = entC p ++ entsC l := rfl
    cases i with
    | zero => exact ⟨rfl, rfl, rfl, rfl⟩
    | succ i =>
      obtain ⟨h1, h2, h3, h4⟩ := ih i (by simpa using h)
      rw [e]
      refine ⟨?_, ?_, ?_, ?_⟩
      · rw [List.getElem?_append_right (by omega), show (i + 1) * 4 - (entC p).length = i * 4 by omega]; exact h1
      · rw [List.getElem?_append_right (by omega), show (i + 1) * 4 + 1 - (entC p).length = i * 4 + 1 by omega]; exact h2
      · rw [List.getElem?_append_right (by omega), show (i + 1) * 4 + 2 - (entC p).length = i * 4 + 2 by omega]; exact h3
      · rw [List.getElem?_append_right (by omega), show (i + 1) * 4 + 3 - (entC p).length = i * 4 + 3 by omega]; exact h4
theorem entsC_append (l m : List Ent) : entsC (l ++ m) = entsC l ++ entsC m := by simp [entsC]
/-- A row of entries, of the call's own, as it is read. -/
theorem RowG.ents {w : World} {S : Nat → Prop} {e : TypeId} {v : Value} {l : List Ent} (h : RowG w S e 4 v l.length (entsC l)) : ∃ a cap, v = .slice a l.length cap ∧ l.length ≤ cap ∧ cap ≤ maxLen ∧ Ents w S a l := by
  obtain ⟨a, cap, rfl, h1, h2, _, h3⟩ := h.form
  refine ⟨a, cap, rfl, h1, h2, fun hl => ?_⟩
  obtain ⟨b, hb, rfl, hc⟩ := h3 hl
  refine ⟨b, 0, hb, rfl, fun i hi => ?_⟩
  obtain ⟨e1, e2, e3, e4⟩ := entsC_get l i hi
  rw [Nat.zero_add]
  exact ⟨(hc (i * 4) (by omega)).1.trans e1, (hc (i * 4 + 1) (by omega)).1.trans e2, (hc (i * 4 + 2) (by omega)).1.trans e3, (hc (i * 4 + 3) (by omega)).1.trans e4⟩
theorem push_ent {P : Program} {t e : TypeId} {z : Value} {n : Nat} (hT : RowT P t e z 4 n) (hn : n ≤ 1000) (W0 wr : World) (vo : Value) (m : Nat) (o : List Ent) (x : Ent) (hm : o.length = m) (hrow : RowG wr (Gr No W0 wr) e 4 vo m (entsC o)) (hfr : Fr No W0 wr) (hl : m ≤ 1000000) :
    ∃ v' w', (Builtin.append_ #[t, t] t #[vo, .slice (some ⟨wr.heap.size, 0, none⟩) 1 1]).run P (wr.alloc (.cells #[.string x.u, .int .i64 x.q, .int .i64 x.k, .string x.val] e)) = .ok v' w' ∧
      RowG w' (Gr No W0 w') e 4 v' (m + 1) (entsC (o ++ [x])) ∧ Fr No W0 w' := by
  subst hm
  have hb : (o.length + 1) * n ≤ 1000001 * 1000 := Nat.mul_le_mul (by omega) hn
  obtain ⟨v', w', h1, h2, h3⟩ := hrow.push hT (fun q hq => hq.elim (fun h => h.elim) (fun h => h.2)) (entC x) rfl (by intro u hu; simp [entC] at hu; rcases hu with rfl | rfl | rfl | rfl <;> rfl) (by omega) (by omega)
  refine ⟨v', w', h1, ?_, hfr.then_ h3 fun q hq h => h.elim (fun h => h) (fun h => absurd hq (by omega))⟩
  rw [entsC_append]
  have e : entsC [x] = entC x := by simp [entsC]
  rw [e]
  exact h2.join hfr.size h3.size

/-! ### The document's answer, as mathematics. -/
def cmpE (x y : Ent) : Int := cmpK x.u.data.toList x.q x.k y.u.data.toList y.q y.k
def putL (x : Ent) : List Ent → List Ent
  | [] => [x]
  | e :: l => if cmpE x e < 0 then x :: e :: l else e :: putL x l
theorem putL_len (x : Ent) : ∀ l, (putL x l).length = l.length + 1
  | [] => rfl
  | e :: l => by
    unfold putL
    split
    · rfl
    · rw [List.length_cons, putL_len x l, List.length_cons]
theorem putL_mem {x y : Ent} : ∀ {l : List Ent}, y ∈ putL x l ↔ y = x ∨ y ∈ l
  | [] => by simp [putL]
  | e :: l => by
    unfold putL
    split
    · simp
    · rw [List.mem_cons, putL_mem (l := l), List.mem_cons]
      constructor
      · rintro (h | h | h)
        · exact .inr (.inl h)
        · exact .inl h
        · exact .inr (.inr h)
      · rintro (h | h | h)
        · exact .inr (.inl h)
        · exact .inl h
        · exact .inr (.inr h)
/-- Would the entry at place i be taken, if the best so far is b? -/
def takesE (l : List Ent) (user : ByteArray) (at_ : Int) (b : Int) (i : Nat) : Bool :=
  (l.getD i ent0).u = user && decide ((l.getD i ent0).q ≤ at_) && (decide (b < 0) || decide (cmpE (l.getD i ent0) (l.getD b.toNat ent0) < 0))
/-- The best of the first n entries. -/
def bestI (l : List Ent) (user : ByteArray) (at_ : Int) : Nat → Int
  | 0 => -1
  | n + 1 => if takesE l user at_ (bestI l user at_ n) n then (n : Int) else bestI l user at_ n
theorem bestI_lt (l : List Ent) (user : ByteArray) (at_ : Int) : ∀ n, -1 ≤ bestI l user at_ n ∧ bestI l user at_ n < (n : Int)
  | 0 => by simp [bestI]
  | n + 1 => by
    have := bestI_lt l user at_ n
    unfold bestI
    split <;> omega
def getE (l : List Ent) (user : ByteArray) (at_ : Int) : Int := bestI l user at_ l.length
/-- The users' keys that have a value, of the first n. -/
def usersE (l : List Ent) (at_ : Int) : Nat → List ByteArray
  | 0 => []
  | n + 1 => if getE l (l.getD n ent0).u at_ = (n : Int) ∧ (l.getD n ent0).k = 1 then usersE l at_ n ++ [(l.getD n ent0).u] else usersE l at_ n
end Go.Proofs.Ytggjkpgkmohmdaa
