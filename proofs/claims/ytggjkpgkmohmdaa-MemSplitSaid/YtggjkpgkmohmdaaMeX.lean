/-
  Layer 11: the model of a table in memory, and what the laws ask of package mem (MemOK).
-/
import Derived.Test.YtggjkpgkmohmdaaMeE
import Derived.Test.YtggjkpgkmohmdaaMeO
import Derived.Test.YtggjkpgkmohmdaaBcA
namespace Go.Proofs.Ytggjkpgkmohmdaa
set_option linter.unusedVariables false
open Go.RowKit

/-- A table: its entries in order, the number of its last op. -/
structure Mt where
  es : List Ent
  last : Int
def newMt : Mt := ⟨[], -1⟩
def opEnt (q : Int) (x : Op10) : Ent := ⟨x.key, q, x.k, x.val⟩
def putAll (es : List Ent) : Int → List Op10 → List Ent
  | _, [] => es
  | q, x :: l => putAll (putL (opEnt q x) es) (q + 1) l
def applyE (m : Mt) (q : Int) (l : List Op10) : Int := if allO q l then (if q ≤ m.last then 31 else 0) else 100
def applyM (m : Mt) (q : Int) (l : List Op10) : Mt := if applyE m q l = 0 then ⟨putAll m.es q l, q + (l.length : Int) - 1⟩ else m
/-- How many bytes an entry has: its key's and its value's. -/
def sizeE (x : Ent) : Nat := (encK x.u.data.toList x.q x.k).length + x.val.size
def sizeMt (m : Mt) : Nat := (m.es.map sizeE).sum
def entAt (m : Mt) (g : Int) : Ent := if g < 0 then ent0 else m.es.getD g.toNat ent0
theorem putAll_len : ∀ (l : List Op10) (es : List Ent) (q : Int), (putAll es q l).length = es.length + l.length
  | [], es, q => rfl
  | x :: l, es, q => by
    show (putAll (putL (opEnt q x) es) (q + 1) l).length = _
    rw [putAll_len l, putL_len, List.length_cons]
    omega
theorem putAll_snoc : ∀ (l : List Op10) (es : List Ent) (q : Int) (x : Op10), putAll es q (l ++ [x]) = putL (opEnt (q + l.length) x) (putAll es q l)
  | [], es, q, x => by simp [putAll]
  | y :: l, es, q, x => by
    show putAll (putL (opEnt q y) es) (q + 1) (l ++ [x]) = putL _ (putAll (putL (opEnt q y) es) (q + 1) l)
    rw [putAll_snoc l]
    congr 2
    rw [List.length_cons]
    omega
theorem putL_size (x : Ent) : ∀ l, ((putL x l).map sizeE).sum = sizeE x + (l.map sizeE).sum
  | [] => by simp [putL]
  | e :: l => by
    unfold putL
    split
    · simp
    · simp only [List.map_cons, List.sum_cons]
      rw [putL_size x l]
      omega
/-- What a call that turns a table leaves. -/
def MovM (D : World → Nat → (Nat → Prop) → Mt → Prop) (t : Nat) (F : Nat → Prop) (m : Mt) (v : Value) (w : World) (e : Ending) (w' : World) : Prop :=
  e = .returned v ∧ ∃ F', D w' t F' m ∧ (∀ k, F' k → F k ∨ w.heap.size ≤ k) ∧ Fr F w w'
/-- WHAT THE LAWS ASK OF PACKAGE mem. -/
structure MemOK (D : World → Nat → (Nat → Prop) → Mt → Prop) : Prop where
  keep : ∀ {w w' : World} {t : Nat} {F T : Nat → Prop} {m : Mt}, D w t F m → Fr T w w' → (∀ k, F k → ¬ T k) → D w' t F m
  low : ∀ {w : World} {t : Nat} {F : Nat → Prop} {m : Mt}, D w t F m → ∀ k, F k → k < w.heap.size
  new : ∀ w : World, Calls Try.prog 18 #[] w fun e w' => ∃ t F, e = .returned (.pointer (some ⟨t, 0, none⟩)) ∧ D w' t F newMt ∧ (∀ k, F k → w.heap.size ≤ k) ∧ Fr No w w'
  apply : ∀ (w : World) (t : Nat) (F : Nat → Prop) (m : Mt) (q : Int) (a : Option Addr) (n cap : Nat) (l : List Op10) (S : Nat → Prop) (da : Option Addr) (dn dc : Nat) (dl : List Int), D w t F m → m.es.length ≤ 100000 → (Lit.int .i64 q).wf = true → l.length = n → n ≤ cap → cap ≤ maxLen → Ops w S a l → (∀ k, S k → ¬ F k) →
    (∀ x ∈ l, OpWf x) → dl.length = dn → dn ≤ dc → dc ≤ maxLen → Ints w da dl → (∀ b o, da = some ⟨b, o, none⟩ → 0 < dn → ¬ F b) →
    Calls Try.prog 19 #[.pointer (some ⟨t, 0, none⟩), .agg #[.int .i64 q, .slice a n cap], .slice da dn dc] w (MovM D t F (applyM m q l) (.int .i64 (applyE m q l)) w)
  get : ∀ (w : World) (t : Nat) (F : Nat → Prop) (m : Mt) (u : ByteArray) (at_ : Int), D w t F m → m.es.length ≤ 100000 → u.size ≤ maxLen → (Lit.int .i64 at_).wf = true →
    Calls Try.prog 13 #[.pointer (some ⟨t, 0, none⟩), .string u, .int .i64 at_] w (Ask (.tuple #[entV (entAt m (getE m.es u at_)), .bool (decide (0 ≤ getE m.es u at_))]) w)
  entries : ∀ (w : World) (t : Nat) (F : Nat → Prop) (m : Mt), D w t F m → m.es.length ≤ 100000 → Calls Try.prog 11 #[.pointer (some ⟨t, 0, none⟩)] w (NewEnts 39 m.es w)
  len : ∀ (w : World) (t : Nat) (F : Nat → Prop) (m : Mt), D w t F m → Calls Try.prog 21 #[.pointer (some ⟨t, 0, none⟩)] w (Ask (.int .i64 (m.es.length : Int)) w)
  size : ∀ (w : World) (t : Nat) (F : Nat → Prop) (m : Mt), D w t F m → Calls Try.prog 26 #[.pointer (some ⟨t, 0, none⟩)] w (Ask (.int .i64 (sizeMt m : Int)) w)
  last : ∀ (w : World) (t : Nat) (F : Nat → Prop) (m : Mt), D w t F m → Calls Try.prog 23 #[.pointer (some ⟨t, 0, none⟩)] w (Ask (.int .i64 m.last) w)
  users : ∀ (w : World) (t : Nat) (F : Nat → Prop) (m : Mt) (at_ : Int), D w t F m → m.es.length ≤ 100000 → (Lit.int .i64 at_).wf = true →
    Calls Try.prog 16 #[.pointer (some ⟨t, 0, none⟩), .int .i64 at_] w (NewStrs (usersE m.es at_ m.es.length) w)
end Go.Proofs.Ytggjkpgkmohmdaa
