/-
  Texts of layer 13 and of what it stands on, one behind the other.
-/
import Derived.Test.YtlobnbbndkhcbaaGreatDoorMg03
import Derived.Test.YtlobnbbndkhcbaaGreatDoorMg04
import Derived.Lib.Hide
import Derived.Handy
import Derived.Laws.BitsAllLaws
import Derived.Test.YtlobnbbndkhcbaaGreatDoorMg01
import Derived.WalkKit
import Derived.Lib.LaidTab

/- Layer 11: entries in memory; a row of entries of the call's own; their order. 'tithebarnref11.Entry' and 'mem.Entry' are told apart by the type alone. -/
namespace Go.Proofs.YtlobnbbndkhcbaaGreatDoor
set_option linter.unusedVariables false
open Go.RowKit

/-- An entry: a user's key, its number, its kind, and the value. -/
structure Ent where
  u : ByteArray
  q : Int
  k : Int
  val : ByteArray
def ent0 : Ent := ⟨ByteArray.empty, 0, 0, ByteArray.empty⟩
def entC (x : Ent) : List Value := [.string x.u, .int .i64 x.q, .int .i64 x.k, .string x.val]
def entV (x : Ent) : Value := .agg #[.string x.u, .int .i64 x.q, .int .i64 x.k, .string x.val]
def entsC (l : List Ent) : List Value := l.flatMap entC
def EntWf (x : Ent) : Prop := x.u.size ≤ maxLen ∧ (Lit.int .i64 x.q).wf = true ∧ (Lit.int .i64 x.k).wf = true ∧ x.val.size ≤ maxLen
structure EntAt (w : World) (b o : Nat) (x : Ent) : Prop where
  c0 : w.cell? ⟨b, o, none⟩ = some (.string x.u)
  c1 : w.cell? ⟨b, o + 1, none⟩ = some (.int .i64 x.q)
  c2 : w.cell? ⟨b, o + 2, none⟩ = some (.int .i64 x.k)
  c3 : w.cell? ⟨b, o + 3, none⟩ = some (.string x.val)
/-- ENTRIES that are read, within blocks of S. -/
def Ents (w : World) (S : Nat → Prop) (a : Option Addr) (l : List Ent) : Prop :=
  0 < l.length → ∃ b o, S b ∧ a = some ⟨b, o, none⟩ ∧ ∀ i, i < l.length → EntAt w b (o + i * 4) (l.getD i ent0)
theorem Ents.nil (w : World) (S : Nat → Prop) (a : Option Addr) : Ents w S a [] := fun h => absurd h (by simp)
theorem EntAt.keep {w w' : World} {T : Nat → Prop} {b o : Nat} {x : Ent} (h : EntAt w b o x) (f : Fr T w w') (hn : ¬ T b) : EntAt w' b o x := ⟨f.cell h.c0 hn, f.cell h.c1 hn, f.cell h.c2 hn, f.cell h.c3 hn⟩
theorem Ents.keep {w w' : World} {S T : Nat → Prop} {a : Option Addr} {l : List Ent} (h : Ents w S a l) (f : Fr T w w') (hn : ∀ k, S k → ¬ T k) : Ents w' S a l := fun hl => by
  obtain ⟨b, o, hb, ha, hc⟩ := h hl
  exact ⟨b, o, hb, ha, fun i hi => (hc i hi).keep f (hn b hb)⟩
theorem Ents.sub {w : World} {S T : Nat → Prop} {a : Option Addr} {l : List Ent} (h : Ents w S a l) (hs : ∀ k, k < w.heap.size → S k → T k) : Ents w T a l := fun hl => by
  obtain ⟨b, o, hb, ha, hc⟩ := h hl
  exact ⟨b, o, hs b (cell_block (hc 0 hl).c0) hb, ha, hc⟩
theorem getD_ent (l : List Ent) (i : Nat) (h : i < l.length) : l.getD i ent0 = l[i] := by
  rw [List.getD_eq_getElem?_getD, List.getElem?_eq_getElem h]
  rfl
theorem getD_memE (l : List Ent) (i : Nat) (h : i < l.length) : l.getD i ent0 ∈ l := by
  rw [getD_ent l i h]
  exact List.getElem_mem h
theorem take_ent (l : List Ent) (k : Nat) (h : k < l.length) : l.take (k + 1) = l.take k ++ [l.getD k ent0] := by
  rw [List.take_add_one, List.getElem?_eq_getElem h, getD_ent l k h]
  rfl
theorem drop_ent (l : List Ent) (k : Nat) (h : k < l.length) : l.drop k = l.getD k ent0 :: l.drop (k + 1) := by
  rw [getD_ent l k h]
  exact List.drop_eq_getElem_cons h
theorem entsC_length (l : List Ent) : (entsC l).length = l.length * 4 := by
  induction l with
  | nil => rfl
  | cons p l ih =>
    show (entC p ++ entsC l).length = _
    rw [List.length_append, ih, List.length_cons]
    simp [entC]
    omega
theorem entsC_get (l : List Ent) : ∀ i, i < l.length → (entsC l)[i * 4]? = some (.string (l.getD i ent0).u) ∧ (entsC l)[i * 4 + 1]? = some (.int .i64 (l.getD i ent0).q) ∧ (entsC l)[i * 4 + 2]? = some (.int .i64 (l.getD i ent0).k) ∧ (entsC l)[i * 4 + 3]? = some (.string (l.getD i ent0).val) := by
  induction l with
  | nil => intro i h; simp at h
  | cons p l ih =>
    intro i h
    have hl : (entC p).length = 4 := rfl
    have e : entsC (p :: l) = entC p ++ entsC l := rfl
    cases i with
    | zero => exact ⟨rfl, rfl, rfl, rfl⟩
    | succ i =>
      obtain ⟨h1, h2, h3, h4⟩ := ih i (by simpa using h)
      rw [e]
      refine ⟨?_, ?_, ?_, ?_⟩
      · rw [List.getElem?_append_right (by omega), show (i + 1) * 4 - (entC p).length = i * 4 by omega]; exact h1
      · rw [List.getElem?_append_right (by omega), show (i + 1) * 4 + 1 - (entC p).length = i * 4 + 1 by omega]; exact h2
      · rw [List.getElem?_append_right (by omega), show (i + 1) * 4 + 2 - (entC p).length = i * 4 + 2 by omega]; exact h3
      · rw [List.getElem?_append_right (by omega), show (i + 1) * 4 + 3 - (entC p).length = i * 4 + 3 by omega]; exact h4
theorem entsC_append (l m : List Ent) : entsC (l ++ m) = entsC l ++ entsC m := by simp [entsC]
/-- A row of entries, of the call's own, as it is read. -/
theorem RowG.ents {w : World} {S : Nat → Prop} {e : TypeId} {v : Value} {l : List Ent} (h : RowG w S e 4 v l.length (entsC l)) : ∃ a cap, v = .slice a l.length cap ∧ l.length ≤ cap ∧ cap ≤ maxLen ∧ Ents w S a l := by
  obtain ⟨a, cap, rfl, h1, h2, _, h3⟩ := h.form
  refine ⟨a, cap, rfl, h1, h2, fun hl => ?_⟩
  obtain ⟨b, hb, rfl, hc⟩ := h3 hl
  refine ⟨b, 0, hb, rfl, fun i hi => ?_⟩
  obtain ⟨e1, e2, e3, e4⟩ := entsC_get l i hi
  rw [Nat.zero_add]
  exact ⟨(hc (i * 4) (by omega)).1.trans e1, (hc (i * 4 + 1) (by omega)).1.trans e2, (hc (i * 4 + 2) (by omega)).1.trans e3, (hc (i * 4 + 3) (by omega)).1.trans e4⟩
theorem push_ent {P : Program} {t e : TypeId} {z : Value} {n : Nat} (hT : RowT P t e z 4 n) (hn : n ≤ 1000) (W0 wr : World) (vo : Value) (m : Nat) (o : List Ent) (x : Ent) (hm : o.length = m) (hrow : RowG wr (Gr No W0 wr) e 4 vo m (entsC o)) (hfr : Fr No W0 wr) (hl : m ≤ 1000000) :
    ∃ v' w', (Builtin.append_ #[t, t] t #[vo, .slice (some ⟨wr.heap.size, 0, none⟩) 1 1]).run P (wr.alloc (.cells #[.string x.u, .int .i64 x.q, .int .i64 x.k, .string x.val] e)) = .ok v' w' ∧
      RowG w' (Gr No W0 w') e 4 v' (m + 1) (entsC (o ++ [x])) ∧ Fr No W0 w' := by
  subst hm
  have hb : (o.length + 1) * n ≤ 1000001 * 1000 := Nat.mul_le_mul (by omega) hn
  obtain ⟨v', w', h1, h2, h3⟩ := hrow.push hT (fun q hq => hq.elim (fun h => h.elim) (fun h => h.2)) (entC x) rfl (by intro u hu; simp [entC] at hu; rcases hu with rfl | rfl | rfl | rfl <;> rfl) (by omega) (by omega)
  refine ⟨v', w', h1, ?_, hfr.then_ h3 fun q hq h => h.elim (fun h => h) (fun h => absurd hq (by omega))⟩
  rw [entsC_append]
  have e : entsC [x] = entC x := by simp [entsC]
  rw [e]
  exact h2.join hfr.size h3.size

/-! ### The document's answer, as mathematics. -/
def cmpE (x y : Ent) : Int := cmpK x.u.data.toList x.q x.k y.u.data.toList y.q y.k
def putL (x : Ent) : List Ent → List Ent
  | [] => [x]
  | e :: l => if cmpE x e < 0 then x :: e :: l else e :: putL x l
theorem putL_len (x : Ent) : ∀ l, (putL x l).length = l.length + 1
  | [] => rfl
  | e :: l => by
    unfold putL
    split
    · rfl
    · rw [List.length_cons, putL_len x l, List.length_cons]
theorem putL_mem {x y : Ent} : ∀ {l : List Ent}, y ∈ putL x l ↔ y = x ∨ y ∈ l
  | [] => by simp [putL]
  | e :: l => by
    unfold putL
    split
    · simp
    · rw [List.mem_cons, putL_mem (l := l), List.mem_cons]
      constructor
      · rintro (h | h | h)
        · exact .inr (.inl h)
        · exact .inl h
        · exact .inr (.inr h)
      · rintro (h | h | h)
        · exact .inr (.inl h)
        · exact .inl h
        · exact .inr (.inr h)
/-- Would the entry at place i be taken, if the best so far is b? -/
def takesE (l : List Ent) (user : ByteArray) (at_ : Int) (b : Int) (i : Nat) : Bool :=
  (l.getD i ent0).u = user && decide ((l.getD i ent0).q ≤ at_) && (decide (b < 0) || decide (cmpE (l.getD i ent0) (l.getD b.toNat ent0) < 0))
/-- The best of the first n entries. -/
def bestI (l : List Ent) (user : ByteArray) (at_ : Int) : Nat → Int
  | 0 => -1
  | n + 1 => if takesE l user at_ (bestI l user at_ n) n then (n : Int) else bestI l user at_ n
theorem bestI_lt (l : List Ent) (user : ByteArray) (at_ : Int) : ∀ n, -1 ≤ bestI l user at_ n ∧ bestI l user at_ n < (n : Int)
  | 0 => by simp [bestI]
  | n + 1 => by
    have := bestI_lt l user at_ n
    unfold bestI
    split <;> omega
def getE (l : List Ent) (user : ByteArray) (at_ : Int) : Int := bestI l user at_ l.length
/-- The users' keys that have a value, of the first n. -/
def usersE (l : List Ent) (at_ : Int) : Nat → List ByteArray
  | 0 => []
  | n + 1 => if getE l (l.getD n ent0).u at_ = (n : Int) ∧ (l.getD n ent0).k = 1 then usersE l at_ n ++ [(l.getD n ent0).u] else usersE l at_ n
/-- A row of entries of the call's own comes back, and nothing that was there has turned. -/
def NewEnts (ty : TypeId) (l : List Ent) (w : World) (e : Ending) (w' : World) : Prop := ∃ v, e = .returned v ∧ RowG w' (Gr No w w') ty 4 v l.length (entsC l) ∧ Fr No w w'
end Go.Proofs.YtlobnbbndkhcbaaGreatDoor

/- Plain facts on CRC-32C over bit vectors: one bit, four bits by a table, a byte, a list of bytes; that all of it is linear and can be undone. -/
namespace Go.Proofs.YtlobnbbndkhcbaaGreatDoor
namespace Crc

/-- The polynomial. -/
def poly : BitVec 32 := 2197175160#32
/-- One bit falls out at the lower end. -/
def one (c : BitVec 32) : BitVec 32 := (c >>> 1) ^^^ (if c.getLsbD 0 then poly else 0#32)
def four (c : BitVec 32) : BitVec 32 := one (one (one (one c)))
def eight (c : BitVec 32) : BitVec 32 := four (four c)
/-- What four bits bring in. -/
def nib : List Nat := [0, 274646895, 549293790, 820201905, 1098587580, 1361435347, 1640403810, 1905808397, 2197175160, 2460548119, 2722870694, 2987750089, 3280807620, 3553878443, 3811616794, 4084100981]
def byte (c : BitVec 32) (x : UInt8) : BitVec 32 := eight (c ^^^ BitVec.ofNat 32 x.toNat)
def run (c : BitVec 32) (l : List UInt8) : BitVec 32 := l.foldl byte c
def more (c : BitVec 32) (l : List UInt8) : BitVec 32 := ~~~ run (~~~ c) l
def of (l : List UInt8) : BitVec 32 := more 0#32 l

theorem one_xor (a b : BitVec 32) : one (a ^^^ b) = one a ^^^ one b := by
  have ac : ∀ x y z u : BitVec 32, (x ^^^ y) ^^^ (z ^^^ u) = (x ^^^ z) ^^^ (y ^^^ u) := by
    intro x y z u
    ac_rfl
  unfold one
  rw [BitVec.ushiftRight_xor_distrib, BitVec.getLsbD_xor, ac]
  cases a.getLsbD 0 <;> cases b.getLsbD 0 <;> simp
theorem four_xor (a b : BitVec 32) : four (a ^^^ b) = four a ^^^ four b := by simp only [four, one_xor]
theorem eight_xor (a b : BitVec 32) : eight (a ^^^ b) = eight a ^^^ eight b := by simp only [eight, four_xor]

theorem one_zero_iff (d : BitVec 32) (h : one d = 0#32) : d = 0#32 := by
  have h31 : (one d).getLsbD 31 = false := by rw [h]; simp
  have h0 : d.getLsbD 0 = false := by
    unfold one at h31
    rw [BitVec.getLsbD_xor] at h31
    cases e : d.getLsbD 0 with
    | false => rfl
    | true =>
      rw [e] at h31
      have hp : (poly).getLsbD 31 = true := by decide
      simp only [if_true, hp, BitVec.getLsbD_ushiftRight] at h31
      rw [BitVec.getLsbD_of_ge d (1 + 31) (by omega)] at h31
      simp at h31
  have h1 : d >>> 1 = 0#32 := by
    unfold one at h
    rw [h0] at h
    simpa using h
  apply BitVec.eq_of_getLsbD_eq
  intro i hi
  rcases i with _ | i
  · simpa using h0
  · have := congrArg (fun v => v.getLsbD i) h1
    simpa [BitVec.getLsbD_ushiftRight, Nat.add_comm] using this
theorem one_inj {a b : BitVec 32} (h : one a = one b) : a = b := by
  have : one (a ^^^ b) = 0#32 := by rw [one_xor, h, BitVec.xor_self]
  have := one_zero_iff _ this
  exact BitVec.xor_eq_zero_iff.mp this
theorem four_inj {a b : BitVec 32} (h : four a = four b) : a = b := one_inj (one_inj (one_inj (one_inj h)))
theorem eight_inj {a b : BitVec 32} (h : eight a = eight b) : a = b := four_inj (four_inj h)

theorem one_even (a : BitVec 32) (h : a.getLsbD 0 = false) : one a = a >>> 1 := by unfold one; rw [h]; simp
theorem one_shl (a : BitVec 32) (k : Nat) (hk : k < 4) : one ((a >>> 4) <<< (k + 1)) = (a >>> 4) <<< k := by
  rw [one_even _ (by simp)]
  apply BitVec.eq_of_getLsbD_eq
  intro i hi
  simp only [BitVec.getLsbD_ushiftRight, BitVec.getLsbD_shiftLeft]
  have e1 : decide (i < 32) = true := by simp [hi]
  rw [e1]
  by_cases h : i < k
  · have e2 : decide (i < k) = true := by simp [h]
    have e3 : decide (1 + i < k + 1) = true := by simp; omega
    rw [e2, e3]
    simp
  · have e2 : decide (i < k) = false := by simp [h]
    have e3 : decide (1 + i < k + 1) = false := by simp; omega
    have e4 : 1 + i - (k + 1) = i - k := by omega
    rw [e2, e3, e4]
    by_cases h2 : 1 + i < 32
    · simp [h2]
    · rw [BitVec.getLsbD_of_ge a (4 + (i - k)) (by omega)]
      simp
theorem four_high (a : BitVec 32) : four ((a >>> 4) <<< 4) = a >>> 4 := by
  unfold four
  rw [one_shl a 3 (by omega), one_shl a 2 (by omega), one_shl a 1 (by omega), one_shl a 0 (by omega)]
  simp
theorem four_low : ∀ i : Fin 16, four (BitVec.ofNat 32 i.val) = BitVec.ofNat 32 (nib.getD i.val 0) := by decide +kernel

/-- FOUR BITS AT A TIME, BY THE TABLE. -/
theorem four_tab (c : BitVec 32) : four c = (c >>> 4) ^^^ BitVec.ofNat 32 (nib.getD (c.toNat % 16) 0) := by
  have hs : c = ((c >>> 4) <<< 4) ^^^ BitVec.ofNat 32 (c.toNat % 16) := by
    apply BitVec.eq_of_getLsbD_eq
    intro i hi
    simp only [BitVec.getLsbD_xor, BitVec.getLsbD_ushiftRight, BitVec.getLsbD_shiftLeft, BitVec.getLsbD_ofNat]
    have e0 : (c.toNat % 16).testBit i = (decide (i < 4) && c.toNat.testBit i) := Nat.testBit_mod_two_pow c.toNat 4 i
    rw [e0]
    simp only [BitVec.testBit_toNat]
    by_cases h : i < 4
    · simp [h, hi]
    · have e4 : 4 + (i - 4) = i := by omega
      simp [h, hi, e4]
  have hl := four_low ⟨c.toNat % 16, by omega⟩
  calc four c = four (((c >>> 4) <<< 4) ^^^ BitVec.ofNat 32 (c.toNat % 16)) := by rw [← hs]
    _ = _ := by rw [four_xor, four_high, hl]

/-- The table's number at a place, closed to the walk. -/
def nibAt (i : Nat) : Nat := nib.getD i 0
theorem nibAt_lt (i : Nat) (h : i < 16) : nibAt i < 4294967296 := by
  have : ∀ i : Fin 16, nibAt i.val < 4294967296 := by decide
  exact this ⟨i, h⟩

def ones : Nat → BitVec 32 → BitVec 32
  | 0, t => t
  | j + 1, t => one (ones j t)
theorem ones_eight (t : BitVec 32) : ones 8 t = eight t := rfl
theorem one_odd (s : BitVec 32) (h : s.toNat % 2 = 1) : one s = (s >>> 1) ^^^ poly := by
  have h0 : s.getLsbD 0 = true := by
    rw [← BitVec.testBit_toNat, Nat.testBit_zero]
    simp [h]
  unfold one
  rw [h0]
  simp
theorem one_even_nat (s : BitVec 32) (h : s.toNat % 2 = 0) : one s = s >>> 1 := by
  apply one_even
  rw [← BitVec.testBit_toNat, Nat.testBit_zero]
  simp [h]

theorem byte_inj {c d : BitVec 32} {x : UInt8} (h : byte c x = byte d x) : c = d := by
  have := eight_inj h
  exact BitVec.xor_left_inj _ |>.mp this
theorem run_inj {c d : BitVec 32} (l : List UInt8) (h : run c l = run d l) : c = d := by
  induction l generalizing c d with
  | nil => exact h
  | cons x l ih => exact byte_inj (ih (by simpa [run] using h))
theorem run_append (c : BitVec 32) (l r : List UInt8) : run c (l ++ r) = run (run c l) r := by simp [run]
theorem run_snoc (c : BitVec 32) (l : List UInt8) (x : UInt8) : run c (l ++ [x]) = byte (run c l) x := by simp [run]
theorem more_append (c : BitVec 32) (l r : List UInt8) : more c (l ++ r) = more (more c l) r := by simp [more, run_append]
theorem more_nil (c : BitVec 32) : more c [] = c := by simp [more, run]

/-- two lists of one length that differ at one place alone have two sums -/
theorem of_tells (l r : List UInt8) (x y : UInt8) (h : x ≠ y) : of (l ++ x :: r) ≠ of (l ++ y :: r) := by
  intro e
  unfold of more at e
  have e1 := BitVec.not_inj.mp e
  rw [run_append, run_append] at e1
  have e2 : byte (run (~~~0#32) l) x = byte (run (~~~0#32) l) y := run_inj r (by simpa [run] using e1)
  have e3 := eight_inj e2
  have e4 := (BitVec.xor_right_inj _).mp e3
  have e5 := congrArg BitVec.toNat e4
  have hx := x.toNat_lt
  have hy := y.toNat_lt
  simp only [BitVec.toNat_ofNat] at e5
  rw [Nat.mod_eq_of_lt (by omega), Nat.mod_eq_of_lt (by omega)] at e5
  exact h (UInt8.toNat_inj.mp e5)

theorem byte_xor3 (a b c : BitVec 32) (x y z : UInt8) : byte (a ^^^ b ^^^ c) (x ^^^ y ^^^ z) = byte a x ^^^ byte b y ^^^ byte c z := by
  have hx := x.toNat_lt
  have hy := y.toNat_lt
  have hz := z.toNat_lt
  unfold byte
  rw [← eight_xor, ← eight_xor]
  congr 1
  have e : BitVec.ofNat 32 (x ^^^ y ^^^ z).toNat = BitVec.ofNat 32 x.toNat ^^^ BitVec.ofNat 32 y.toNat ^^^ BitVec.ofNat 32 z.toNat := by
    rw [UInt8.toNat_xor, UInt8.toNat_xor, BitVec.ofNat_xor, BitVec.ofNat_xor]
  rw [e]
  ac_rfl
def xor3 : List UInt8 → List UInt8 → List UInt8 → List UInt8
  | x :: a, y :: b, z :: c => (x ^^^ y ^^^ z) :: xor3 a b c
  | _, _, _ => []
theorem run_xor3 (l r s : List UInt8) (h1 : l.length = r.length) (h2 : l.length = s.length) (a b c : BitVec 32) :
    run (a ^^^ b ^^^ c) (xor3 l r s) = run a l ^^^ run b r ^^^ run c s := by
  induction l generalizing r s a b c with
  | nil =>
    cases r <;> cases s <;> simp_all [xor3, run]
  | cons x l ih =>
    cases r with
    | nil => simp at h1
    | cons y r =>
      cases s with
      | nil => simp at h2
      | cons z s =>
        have := ih r s (by simpa using h1) (by simpa using h2) (byte a x) (byte b y) (byte c z)
        simpa [xor3, run, byte_xor3] using this
theorem of_xor3 (l r s : List UInt8) (h1 : l.length = r.length) (h2 : l.length = s.length) : of (xor3 l r s) = of l ^^^ of r ^^^ of s := by
  have h := run_xor3 l r s h1 h2 (~~~0#32) (~~~0#32) (~~~0#32)
  have e : (~~~0#32 : BitVec 32) ^^^ ~~~0#32 ^^^ ~~~0#32 = ~~~0#32 := by decide
  rw [e] at h
  unfold of more
  rw [h]
  apply BitVec.eq_of_getLsbD_eq
  intro i hi
  simp [hi]

theorem one_shl' (x : BitVec 32) (k : Nat) (hk : k < 8) (hx : x.toNat < 2 ^ 24) : one (x <<< (k + 1)) = x <<< k := by
  rw [one_even _ (by simp)]
  apply BitVec.eq_of_getLsbD_eq
  intro i hi
  simp only [BitVec.getLsbD_ushiftRight, BitVec.getLsbD_shiftLeft]
  have e1 : decide (i < 32) = true := by simp [hi]
  rw [e1]
  by_cases h : i < k
  · have e2 : decide (i < k) = true := by simp [h]
    have e3 : decide (1 + i < k + 1) = true := by simp; omega
    rw [e2, e3]
    simp
  · have e2 : decide (i < k) = false := by simp [h]
    have e3 : decide (1 + i < k + 1) = false := by simp; omega
    have e4 : 1 + i - (k + 1) = i - k := by omega
    rw [e2, e3, e4]
    by_cases h2 : 1 + i < 32
    · simp [h2]
    · have e5 : x.getLsbD (i - k) = false := by
        rw [← BitVec.testBit_toNat]
        exact Nat.testBit_lt_two_pow (Nat.lt_of_lt_of_le hx (Nat.pow_le_pow_right (by omega) (by omega)))
      simp [e5]
theorem eight_shl (x : BitVec 32) (hx : x.toNat < 2 ^ 24) : eight (x <<< 8) = x := by
  unfold eight four
  rw [one_shl' x 7 (by omega) hx, one_shl' x 6 (by omega) hx, one_shl' x 5 (by omega) hx, one_shl' x 4 (by omega) hx,
    one_shl' x 3 (by omega) hx, one_shl' x 2 (by omega) hx, one_shl' x 1 (by omega) hx, one_shl' x 0 (by omega) hx]
  simp
theorem eight_at (x : Nat) (hx : x < 16777216) : eight (BitVec.ofNat 32 (x * 256)) = BitVec.ofNat 32 x := by
  have e : BitVec.ofNat 32 (x * 256) = (BitVec.ofNat 32 x) <<< 8 := by
    apply BitVec.eq_of_toNat_eq
    rw [BitVec.toNat_shiftLeft, BitVec.toNat_ofNat, BitVec.toNat_ofNat, Nat.shiftLeft_eq]
    omega
  rw [e]
  exact eight_shl _ (by rw [BitVec.toNat_ofNat]; omega)
theorem xor_parts (n : Nat) :
    BitVec.ofNat 32 n = BitVec.ofNat 32 (n % 256) ^^^ BitVec.ofNat 32 (n / 256 % 256 * 256) ^^^ BitVec.ofNat 32 (n / 65536 % 256 * 65536) ^^^ BitVec.ofNat 32 (n / 16777216 % 256 * 16777216) := by
  apply BitVec.eq_of_getLsbD_eq
  intro i hi
  have p8 : (256 : Nat) = 2 ^ 8 := by decide
  have p16 : (65536 : Nat) = 2 ^ 16 := by decide
  have p24 : (16777216 : Nat) = 2 ^ 24 := by decide
  simp only [BitVec.getLsbD_xor, BitVec.getLsbD_ofNat, hi, decide_true, Bool.true_and]
  rw [p16, p24, p8]
  simp only [Nat.testBit_mod_two_pow, Nat.testBit_mul_two_pow, Nat.testBit_div_two_pow]
  have c : i < 8 ∨ (8 ≤ i ∧ i < 16) ∨ (16 ≤ i ∧ i < 24) ∨ 24 ≤ i := by omega
  rcases c with h | ⟨h, h'⟩ | ⟨h, h'⟩ | h
  · simp [h, show ¬ 8 ≤ i by omega, show ¬ 16 ≤ i by omega, show ¬ 24 ≤ i by omega]
  · simp [show ¬ i < 8 by omega, h, show ¬ 16 ≤ i by omega, show ¬ 24 ≤ i by omega, show i - 8 < 8 by omega, show i - 8 + 8 = i by omega]
  · simp [show ¬ i < 8 by omega, h, show 8 ≤ i by omega, show ¬ i - 8 < 8 by omega, show ¬ 24 ≤ i by omega, show i - 16 < 8 by omega, show i - 16 + 16 = i by omega]
  · simp [show ¬ i < 8 by omega, h, show 8 ≤ i by omega, show 16 ≤ i by omega, show ¬ i - 8 < 8 by omega, show ¬ i - 16 < 8 by omega, show i - 24 < 8 by omega, show i - 24 + 24 = i by omega]
theorem of_end (c : BitVec 32) : more c [UInt8.ofNat c.toNat, UInt8.ofNat (c.toNat / 256), UInt8.ofNat (c.toNat / 65536), UInt8.ofNat (c.toNat / 16777216)] = 1214729159#32 := by
  have hp := xor_parts c.toNat
  rw [BitVec.ofNat_toNat, BitVec.setWidth_eq] at hp
  unfold more run
  simp only [List.foldl_cons, List.foldl_nil]
  unfold byte
  simp only [UInt8.toNat_ofNat']
  have p8 : 2 ^ 8 = 256 := by decide
  rw [p8]
  have e1 : BitVec.ofNat 32 (c.toNat / 256 % 256) = eight (BitVec.ofNat 32 (c.toNat / 256 % 256 * 256)) := (eight_at _ (by omega)).symm
  have e2 : BitVec.ofNat 32 (c.toNat / 65536 % 256) = eight (eight (BitVec.ofNat 32 (c.toNat / 65536 % 256 * 65536))) := by
    rw [show c.toNat / 65536 % 256 * 65536 = c.toNat / 65536 % 256 * 256 * 256 by omega, eight_at _ (by omega), eight_at _ (by omega)]
  have e3 : BitVec.ofNat 32 (c.toNat / 16777216 % 256) = eight (eight (eight (BitVec.ofNat 32 (c.toNat / 16777216 % 256 * 16777216)))) := by
    rw [show c.toNat / 16777216 % 256 * 16777216 = c.toNat / 16777216 % 256 * 256 * 256 * 256 by omega, eight_at _ (by omega), eight_at _ (by omega), eight_at _ (by omega)]
  rw [e1, ← eight_xor, e2, ← eight_xor, ← eight_xor, e3, ← eight_xor, ← eight_xor, ← eight_xor]
  have e4 : ~~~c ^^^ BitVec.ofNat 32 (c.toNat % 256) ^^^ BitVec.ofNat 32 (c.toNat / 256 % 256 * 256) ^^^ BitVec.ofNat 32 (c.toNat / 65536 % 256 * 65536) ^^^ BitVec.ofNat 32 (c.toNat / 16777216 % 256 * 16777216) = BitVec.allOnes 32 := by
    have a1 : ∀ x y z u v : BitVec 32, x ^^^ y ^^^ z ^^^ u ^^^ v = x ^^^ (y ^^^ z ^^^ u ^^^ v) := by
      intro x y z u v
      ac_rfl
    rw [a1, ← hp]
    apply BitVec.eq_of_getLsbD_eq
    intro i hi
    simp only [BitVec.getLsbD_xor, BitVec.getLsbD_not, BitVec.getLsbD_allOnes, hi, decide_true, Bool.true_and]
    cases c.getLsbD i <;> rfl
  rw [e4]
  decide +kernel

/-- what has been put together of three lists behind k places -/
def joinTo (a b c : List UInt8) (n : Nat) : Nat → List UInt8
  | 0 => List.replicate n 0
  | k + 1 => (joinTo a b c n k).set k (a.getD k 0 ^^^ b.getD k 0 ^^^ c.getD k 0)
theorem joinTo_length (a b c : List UInt8) (n k : Nat) : (joinTo a b c n k).length = n := by
  induction k with
  | zero => simp [joinTo]
  | succ k ih => simp [joinTo, ih]
theorem joinTo_get (a b c : List UInt8) (n k i : Nat) (hi : i < n) : (joinTo a b c n k)[i]? = some (if i < k then a.getD i 0 ^^^ b.getD i 0 ^^^ c.getD i 0 else 0) := by
  induction k with
  | zero => simp [joinTo, hi]
  | succ k ih =>
    unfold joinTo
    rw [List.getElem?_set]
    by_cases e : k = i
    · subst e
      simp [joinTo_length, hi]
    · rw [if_neg e, ih]
      by_cases h : i < k
      · simp [h, show i < k + 1 by omega]
      · simp [h, show ¬ i < k + 1 by omega]
theorem xor3_get (a b c : List UInt8) (i : Nat) (h1 : i < a.length) (h2 : i < b.length) (h3 : i < c.length) : (xor3 a b c)[i]? = some (a.getD i 0 ^^^ b.getD i 0 ^^^ c.getD i 0) := by
  induction a generalizing b c i with
  | nil => simp at h1
  | cons x a ih =>
    cases b with
    | nil => simp at h2
    | cons y b =>
      cases c with
      | nil => simp at h3
      | cons z c =>
        cases i with
        | zero => simp [xor3]
        | succ i =>
          have := ih b c i (by simpa using h1) (by simpa using h2) (by simpa using h3)
          simpa [xor3] using this
theorem xor3_length (a b c : List UInt8) (h1 : a.length = b.length) (h2 : a.length = c.length) : (xor3 a b c).length = a.length := by
  induction a generalizing b c with
  | nil => simp [xor3]
  | cons x a ih =>
    cases b with
    | nil => simp at h1
    | cons y b =>
      cases c with
      | nil => simp at h2
      | cons z c => simpa [xor3] using ih b c (by simpa using h1) (by simpa using h2)
theorem joinTo_all (a b c : List UInt8) (n : Nat) (h1 : n ≤ a.length) (h2 : n ≤ b.length) (h3 : n ≤ c.length) : joinTo a b c n n = xor3 (a.take n) (b.take n) (c.take n) := by
  apply List.ext_getElem?
  intro i
  by_cases hi : i < n
  · rw [joinTo_get _ _ _ _ _ _ hi, if_pos hi, xor3_get _ _ _ _ (by simp; omega) (by simp; omega) (by simp; omega)]
    simp [List.getD, hi]
  · rw [List.getElem?_eq_none (by rw [joinTo_length]; omega), List.getElem?_eq_none (by rw [xor3_length _ _ _ (by simp; omega) (by simp; omega)]; simp; omega)]
theorem of_joinTo (a b c : List UInt8) (n : Nat) (h1 : n ≤ a.length) (h2 : n ≤ b.length) (h3 : n ≤ c.length) : of (joinTo a b c n n) = of (a.take n) ^^^ of (b.take n) ^^^ of (c.take n) := by
  rw [joinTo_all a b c n h1 h2 h3, of_xor3 _ _ _ (by simp; omega) (by simp; omega)]

end Crc
end Go.Proofs.YtlobnbbndkhcbaaGreatDoor

/- Contracts of package sum's functions and of the document's answers for them, over this seat's translation: each returns what the plain functions of Crc say, and leaves memory as it was. -/
namespace Go.Proofs.YtlobnbbndkhcbaaGreatDoor
set_option linter.unusedVariables false
open Go.RowKit

/-- The table's cells. -/
def Tab (w : World) : Prop := ∀ i, i < 16 → w.cell? ⟨1, i, none⟩ = some (.int .u32 ((Crc.nibAt i : Nat) : Int))

theorem take_snoc (l : List UInt8) (k : Nat) (x : UInt8) (h : k < l.length) (hx : l.getD k 0 = x) : l.take (k + 1) = l.take k ++ [x] := by
  rw [List.take_succ_eq_append_getElem h]
  have : l.getD k 0 = l[k] := by simp [h]
  rw [← hx, this]

/-! How the walk spells the steps on 32 bits. -/
theorem bv_lt (c : BitVec 32) : (c.toNat : Int) < 4294967296 := by
  have := c.isLt
  omega
theorem bv_ofInt (c : BitVec 32) : BitVec.ofInt 32 (c.toNat : Int) = c := by
  rw [BitVec.ofInt_natCast, BitVec.ofNat_toNat, BitVec.setWidth_eq]
theorem wrap_bv (c : BitVec 32) : IntKind.u32.wrap (c.toNat : Int) = (c.toNat : Int) := IntWalk.u32_in _ (by have := bv_lt c; omega)
theorem xor_bv (a b : BitVec 32) : bits .xor .u32 (a.toNat : Int) (b.toNat : Int) = ((a ^^^ b).toNat : Int) := by
  show IntKind.u32.wrap ((BitVec.ofInt 32 (a.toNat : Int) ^^^ BitVec.ofInt 32 (b.toNat : Int)).toNat : Int) = _
  rw [bv_ofInt, bv_ofInt]
  exact wrap_bv _
theorem not_bv (a : BitVec 32) : bits .xor .u32 IntKind.u32.max (a.toNat : Int) = ((~~~a).toNat : Int) := by
  have e : IntKind.u32.max = ((BitVec.allOnes 32).toNat : Int) := by decide +kernel
  rw [e, xor_bv, BitVec.allOnes_xor]
theorem xor_byte (a : BitVec 32) (x : UInt8) : bits .xor .u32 (a.toNat : Int) (x.toNat : Int) = ((a ^^^ BitVec.ofNat 32 x.toNat).toNat : Int) := by
  have hx := x.toNat_lt
  have e : (x.toNat : Int) = ((BitVec.ofNat 32 x.toNat).toNat : Int) := by
    rw [BitVec.toNat_ofNat, Nat.mod_eq_of_lt (by omega)]
  rw [e, xor_bv]
theorem and15 (a : BitVec 32) : bits .and .u32 (a.toNat : Int) 15 = ((a.toNat % 16 : Nat) : Int) := by
  show IntKind.u32.wrap ((BitVec.ofInt 32 (a.toNat : Int) &&& BitVec.ofInt 32 15).toNat : Int) = _
  have e : BitVec.ofInt 32 15 = 15#32 := by decide
  rw [bv_ofInt, e, BitVec.toNat_and]
  have e2 : a.toNat &&& (15#32).toNat = a.toNat % 16 := Nat.and_two_pow_sub_one_eq_mod a.toNat 4
  rw [e2]
  exact IntWalk.u32_in _ (by omega)
theorem four_bv (a : BitVec 32) : bits .xor .u32 ((a.toNat : Int) / (16 : Int)) ((Crc.nibAt (a.toNat % 16) : Nat) : Int) = ((Crc.four a).toNat : Int) := by
  have h1 : ((a.toNat : Int) / (16 : Int)) = ((a >>> 4).toNat : Int) := by
    have e : (a >>> 4).toNat = a.toNat / 16 := by rw [BitVec.toNat_ushiftRight, Nat.shiftRight_eq_div_pow]
    rw [e]
    omega
  have h2 : ((Crc.nibAt (a.toNat % 16) : Nat) : Int) = ((BitVec.ofNat 32 (Crc.nibAt (a.toNat % 16))).toNat : Int) := by
    rw [BitVec.toNat_ofNat, Nat.mod_eq_of_lt (Crc.nibAt_lt _ (by omega))]
  rw [h1, h2, xor_bv, Crc.four_tab]
  rfl

set_option maxHeartbeats 400000 in
theorem more_c (c : BitVec 32) (a : Option Addr) (len cap : Nat) (l : List UInt8) (w : World) (hl : l.length = len) (hm : len ≤ 140737488351232) (hr : Rd w a l) (ht : Tab w) :
    Calls Tryz.prog 131 #[.int .u32 (c.toNat : Int), .slice a len cap] w fun e w' => e = .returned (.int .u32 ((Crc.more c l).toNat : Int)) ∧ w = w' := by
  have hc := c.isLt
  have H := Lib.hid hl
  clear hl
  obtain ⟨d, hd⟩ : ∃ d, d = ~~~c := ⟨_, rfl⟩
  have n1 := not_bv c
  rw [← hd] at n1
  have Hd := Lib.hid hd
  clear hd
  go_enter Tryz.func131, Tryz.ntmps131
  go_wp2_with fail
  clear n1
  go_loop [0, 11] (fun t i => ∃ (k : Nat) (s : BitVec 32), k ≤ len ∧ i = .int .i64 k ∧ t = .int .u32 (s.toNat : Int) ∧ s = Crc.run d (l.take k)) (fun _ i => len - (intOf i).toNat)
  case atStart => exact ⟨0, _, Nat.zero_le _, rfl, rfl, rfl⟩
  case round =>
    obtain ⟨k, s, hk, rfl, rfl, hs⟩ := hrel
    have Hs := Lib.hid hs
    clear hs
    by_cases hlt : k < len
    · obtain ⟨b, o, rfl, hcell⟩ := hr (by have := H.out; omega)
      have hx := hcell k (by have := H.out; omega)
      clear hcell hr
      have hxl := (l.getD k 0).toNat_lt
      generalize hgx : l.getD k 0 = x at hx hxl
      have Hx := Lib.hid hgx
      clear hgx
      obtain ⟨t, et⟩ : ∃ t, t = s ^^^ BitVec.ofNat 32 x.toNat := ⟨_, rfl⟩
      obtain ⟨u, eu⟩ : ∃ u, u = Crc.four t := ⟨_, rfl⟩
      obtain ⟨v, ev⟩ : ∃ v, v = Crc.four u := ⟨_, rfl⟩
      have e1 := xor_byte s x
      rw [← et] at e1
      have e2 := and15 t
      have e3 := four_bv t
      rw [← eu] at e3
      have e4 := and15 u
      have e5 := four_bv u
      rw [← ev] at e5
      have c1 := ht (t.toNat % 16) (by omega)
      have c2 := ht (u.toNat % 16) (by omega)
      have Het := Lib.hid et
      have Heu := Lib.hid eu
      have Hev := Lib.hid ev
      have htl := t.isLt
      have hul := u.isLt
      have b1 : t.toNat % 16 < 16 := by omega
      have b2 : u.toNat % 16 < 16 := by omega
      clear et eu ev ht
      go_wp2_with fail
      go_round
      case rel =>
        refine ⟨k + 1, v, by omega, by go_num, rfl, ?_⟩
        have e : l.take (k + 1) = l.take k ++ [x] := take_snoc l k x (by have := H.out; omega) Hx.out
        rw [e, Crc.run_snoc, ← Hs.out, Hev.out, Heu.out, Het.out]
        rfl
      case measure => simp [intOf]; omega
    · have hk' : k = len := by omega
      have Hk := Lib.hid hk'
      clear hk'
      obtain ⟨r, er⟩ : ∃ r, r = ~~~s := ⟨_, rfl⟩
      have n2 := not_bv s
      rw [← er] at n2
      have Her := Lib.hid er
      clear er
      go_wp2_with fail
      go_ret
      refine ⟨?_, rfl⟩
      have e : r = Crc.more c l := by
        have h1 : l.take k = l := List.take_of_length_le (by have := H.out; have := Hk.out; omega)
        rw [Her.out, Hs.out, h1, Hd.out]
        rfl
      rw [e]
      rfl

set_option maxHeartbeats 400000 in
theorem of_c (a : Option Addr) (len cap : Nat) (l : List UInt8) (w : World) (hl : l.length = len) (hm : len ≤ 140737488351232) (hr : Rd w a l) (ht : Tab w) :
    Calls Tryz.prog 110 #[.slice a len cap] w fun e w' => e = .returned (.int .u32 ((Crc.of l).toNat : Int)) ∧ w = w' := by
  have H := Lib.hid (more_c 0#32 a len cap l w hl hm hr ht)
  clear hl hr ht
  go_enter Tryz.func110, Tryz.ntmps110
  go_wp2_with fail
  refine (show Calls _ _ _ _ _ from H.out).mono ?_
  rintro e w' ⟨rfl, rfl⟩
  go_wp2_with fail
  go_ret
  exact ⟨rfl, rfl⟩

end Go.Proofs.YtlobnbbndkhcbaaGreatDoor

/- The walks of package sum, the document's own: Run, Of. -/
namespace Go.Proofs.YtlobnbbndkhcbaaGreatDoor
set_option linter.unusedVariables false
open Go.RowKit

theorem quo2 (s : BitVec 32) : ((s.toNat : Int) / (2 : Int)) = ((s >>> 1).toNat : Int) := by
  have e : (s >>> 1).toNat = s.toNat / 2 := by rw [BitVec.toNat_ushiftRight, Nat.shiftRight_eq_div_pow]
  rw [e]
  omega
theorem odd_bv (s : BitVec 32) (h : s.toNat % 2 = 1) : bits .xor .u32 ((s.toNat : Int) / (2 : Int)) 2197175160 = ((Crc.one s).toNat : Int) := by
  rw [quo2, Crc.one_odd s h, show (2197175160 : Int) = ((Crc.poly).toNat : Int) by decide +kernel, xor_bv]
theorem even_bv (s : BitVec 32) (h : s.toNat % 2 = 0) : ((s.toNat : Int) / (2 : Int)) = ((Crc.one s).toNat : Int) := by
  rw [quo2, Crc.one_even_nat s h]

set_option maxHeartbeats 400000 in
theorem run_c (c : BitVec 32) (a : Option Addr) (len cap : Nat) (l : List UInt8) (w : World) (hl : l.length = len) (hm : len ≤ 140737488351232) (hr : Rd w a l) :
    Calls Tryz.prog 80 #[.int .u32 (c.toNat : Int), .slice a len cap] w fun e w' => e = .returned (.int .u32 ((Crc.run c l).toNat : Int)) ∧ w = w' := by
  have H := Lib.hid hl
  clear hl
  go_enter Tryz.func80, Tryz.ntmps80
  go_wp2_with fail
  go_loop [0, 5] (fun t i => ∃ (k : Nat) (s : BitVec 32), k ≤ len ∧ i = .int .i64 k ∧ t = .int .u32 (s.toNat : Int) ∧ s = Crc.run c (l.take k)) (fun _ i => len - (intOf i).toNat)
  case atStart => exact ⟨0, _, Nat.zero_le _, rfl, rfl, rfl⟩
  case round =>
    obtain ⟨k, s, hk, rfl, rfl, hs⟩ := hrel
    have Hs := Lib.hid hs
    clear hs
    by_cases hlt : k < len
    · obtain ⟨b, o, rfl, hcell⟩ := hr (by have := H.out; omega)
      have hx := hcell k (by have := H.out; omega)
      clear hcell hr
      have hxl := (l.getD k 0).toNat_lt
      generalize hgx : l.getD k 0 = x at hx hxl
      have Hx := Lib.hid hgx
      clear hgx
      obtain ⟨t, et⟩ : ∃ t, t = s ^^^ BitVec.ofNat 32 x.toNat := ⟨_, rfl⟩
      have e1 := xor_byte s x
      rw [← et] at e1
      have Het := Lib.hid et
      clear et
      go_wp2_with fail
      clear e1
      go_loop [0, 6] (fun u j => ∃ (n : Nat) (r : BitVec 32), n ≤ 8 ∧ j = .int .i64 n ∧ u = .int .u32 (r.toNat : Int) ∧ r = Crc.ones n t) (fun _ j => 8 - (intOf j).toNat)
      case atStart => exact ⟨0, _, Nat.zero_le _, rfl, rfl, rfl⟩
      case round =>
        obtain ⟨n, r, hn, rfl, rfl, hrr⟩ := hrel
        have Hr := Lib.hid hrr
        clear hrr
        have hrl := r.isLt
        by_cases hn8 : n < 8
        · obtain ⟨v, ev⟩ : ∃ v, v = Crc.one r := ⟨_, rfl⟩
          by_cases ho : r.toNat % 2 = 1
          · have o1 := odd_bv r ho
            rw [← ev] at o1
            have Hev := Lib.hid ev
            clear ev
            go_wp2_with fail
            go_round
            case rel => exact ⟨n + 1, v, by omega, by go_num, rfl, by rw [Hev.out, Hr.out]; rfl⟩
            case measure => simp [intOf]; omega
          · have ho : r.toNat % 2 = 0 := by omega
            have o1 := even_bv r ho
            rw [← ev] at o1
            have Hev := Lib.hid ev
            clear ev
            go_wp2_with fail
            go_round
            case rel => exact ⟨n + 1, v, by omega, by go_num, rfl, by rw [Hev.out, Hr.out]; rfl⟩
            case measure => simp [intOf]; omega
        · have hn' : n = 8 := by omega
          have Hn := Lib.hid hn'
          clear hn'
          go_wp2_with fail
          go_round
          case rel =>
            refine ⟨k + 1, r, by omega, by go_num, rfl, ?_⟩
            have e : l.take (k + 1) = l.take k ++ [x] := take_snoc l k x (by have := H.out; omega) Hx.out
            rw [e, Crc.run_snoc, ← Hs.out, Hr.out, Hn.out, Het.out]
            rfl
          case measure => simp [intOf]; omega
    · have hk' : k = len := by omega
      have Hk := Lib.hid hk'
      clear hk'
      go_wp2_with fail
      go_ret
      refine ⟨?_, rfl⟩
      have e : s = Crc.run c l := by
        have h1 : l.take k = l := List.take_of_length_le (by have := H.out; have := Hk.out; omega)
        rw [Hs.out, h1]
      rw [e]
      rfl
set_option maxHeartbeats 400000 in
theorem refof_c (a : Option Addr) (len cap : Nat) (l : List UInt8) (w : World) (hl : l.length = len) (hm : len ≤ 140737488351232) (hr : Rd w a l) :
    Calls Tryz.prog 51 #[.slice a len cap] w fun e w' => e = .returned (.int .u32 ((Crc.of l).toNat : Int)) ∧ w = w' := by
  have H := Lib.hid (run_c (~~~0#32) a len cap l w hl hm hr)
  clear hl hr
  obtain ⟨t, et⟩ : ∃ t, t = Crc.run (~~~0#32) l := ⟨_, rfl⟩
  obtain ⟨v, ev⟩ : ∃ v, v = ~~~t := ⟨_, rfl⟩
  have e1 : bits .xor .u32 (t.toNat : Int) 4294967295 = (v.toNat : Int) := by
    rw [show (4294967295 : Int) = ((BitVec.allOnes 32).toNat : Int) by decide +kernel, xor_bv, BitVec.xor_allOnes, ev]
  have Hev := Lib.hid ev
  have Het := Lib.hid et
  rw [← et] at H
  clear ev et
  go_enter Tryz.func51, Tryz.ntmps51
  go_wp2_with fail
  refine (show Calls _ _ _ _ _ from H.out).mono ?_
  rintro e w' ⟨rfl, rfl⟩
  go_wp2_with fail
  go_ret
  refine ⟨?_, rfl⟩
  have e : v = Crc.of l := by
    rw [Hev.out, Het.out]
    rfl
  rw [e]
  rfl
end Go.Proofs.YtlobnbbndkhcbaaGreatDoor

/- Contracts of package sum's Mask and of the document's; the table behind what is new. -/
namespace Go.Proofs.YtlobnbbndkhcbaaGreatDoor
set_option linter.unusedVariables false
open Go.RowKit

theorem Tab.below {w w' : World} {B : Nat} (h : Tab w) (hb : Below B w w') (hB : w.heap.size ≤ B) : Tab w' := fun i hi => by
  have h1 := h i hi
  exact (hb.cell (Nat.lt_of_lt_of_le (cell_block h1) hB)).trans h1

def mk (c : Int) : Int := (c / 32768 + c % 32768 * 131072 + 2726488792) % 4294967296
theorem or_add (a b : Nat) (k : Nat) (ha : a < 2 ^ k) : a ||| b * 2 ^ k = a + b * 2 ^ k := by
  have h := Nat.shiftLeft_add_eq_or_of_lt ha b
  rw [Nat.shiftLeft_eq] at h
  rw [Nat.or_comm, Nat.add_comm]
  exact h.symm
theorem or_mask (c : Int) (h0 : 0 ≤ c) (h1 : c ≤ 4294967295) : bits .or .u32 (c / 32768) (c * 131072 % 4294967296) = c / 32768 + c % 32768 * 131072 := by
  obtain ⟨n, rfl⟩ := Int.eq_ofNat_of_zero_le h0
  rw [u32_or _ _ (by omega) (by omega) (by omega) (by omega)]
  have e1 : ((n : Int) / 32768).toNat = n / 32768 := by omega
  have e2 : ((n : Int) * 131072 % 4294967296).toNat = n % 32768 * 2 ^ 17 := by omega
  have e3 : n / 32768 < 2 ^ 17 := by omega
  rw [e1, e2, or_add _ _ 17 e3]
  omega
set_option maxHeartbeats 400000 in
theorem mask_c (c : Int) (w : World) (h0 : 0 ≤ c) (h1 : c ≤ 4294967295) :
    Calls Tryz.prog 109 #[.int .u32 c] w fun e w' => e = .returned (.int .u32 (mk c)) ∧ w = w' := by
  have e := or_mask c h0 h1
  go_enter Tryz.func109, Tryz.ntmps109
  go_wp2_with fail
  go_ret
  exact ⟨rfl, rfl⟩
set_option maxHeartbeats 400000 in
theorem refmask_c (c : Int) (w : World) (_h0 : 0 ≤ c) (_h1 : c ≤ 4294967295) :
    Calls Tryz.prog 50 #[.int .u32 c] w fun e w' => e = .returned (.int .u32 (mk c)) ∧ w = w' := by
  go_enter Tryz.func50, Tryz.ntmps50
  go_wp2_with fail
  go_ret
  exact ⟨rfl, rfl⟩
end Go.Proofs.YtlobnbbndkhcbaaGreatDoor

/- Plain mathematics of layer 4: the places of a key's probes. No program is named. -/
namespace Go.Proofs.YtlobnbbndkhcbaaGreatDoor

/-- The mask of a sum, as a number. -/
def mkN (c : Nat) : Nat := (c / 32768 + c % 32768 * 131072 + 2726488792) % 4294967296
/-- The probes' first place and their step, before the rest is taken. -/
def pA (l : List UInt8) : Nat := (Crc.of l).toNat
def pD (l : List UInt8) : Nat := if mkN (pA l) % 2 = 0 then mkN (pA l) + 1 else mkN (pA l)
/-- The places of a key's probes. -/
def places (l : List UInt8) (m n : Nat) : List Nat := (List.range n).map fun i => (pA l + i * pD l) % m

theorem pA_lt (l : List UInt8) : pA l < 4294967296 := (Crc.of l).isLt
theorem mkN_lt (c : Nat) : mkN c < 4294967296 := Nat.mod_lt _ (by decide)
theorem pD_lt (l : List UInt8) : pD l < 4294967297 := by
  unfold pD
  have h := mkN_lt (pA l)
  generalize mkN (pA l) = m at h
  split <;> omega
theorem places_length (l : List UInt8) (m n : Nat) : (places l m n).length = n := by simp [places]
theorem places_succ (l : List UInt8) (m n : Nat) : places l m (n + 1) = places l m n ++ [(pA l + n * pD l) % m] := by simp [places, List.range_succ]
theorem places_take (l : List UInt8) (m n k : Nat) (h : k ≤ n) : (places l m n).take k = places l m k := by
  unfold places
  rw [← List.map_take, List.take_range, Nat.min_eq_left h]
theorem places_lt (l : List UInt8) (m n : Nat) (hm : 0 < m) : ∀ x ∈ places l m n, x < m := by
  intro x hx
  obtain ⟨i, _, rfl⟩ := List.mem_map.1 hx
  exact Nat.mod_lt _ hm
theorem places_get (l : List UInt8) (m n i : Nat) (h : i < n) : (places l m n)[i]? = some ((pA l + i * pD l) % m) := by
  simp [places, h]
theorem probe_lt (l : List UInt8) (i : Nat) (h : i ≤ 64) : pA l + i * pD l < 18446744073709551616 := by
  have h1 := pA_lt l
  have h2 := pD_lt l
  have h3 : i * pD l ≤ 64 * 4294967297 := Nat.mul_le_mul h (Nat.le_of_lt h2)
  omega
end Go.Proofs.YtlobnbbndkhcbaaGreatDoor
