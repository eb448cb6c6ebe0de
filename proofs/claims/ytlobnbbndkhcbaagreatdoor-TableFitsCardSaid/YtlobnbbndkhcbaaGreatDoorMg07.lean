/-
  Texts of layer 13 and of what it stands on, one behind the other.
-/
import Derived.Test.YtlobnbbndkhcbaaGreatDoorMg02
import Derived.Deep.Slices
import Derived.Deep.Fields
import Derived.Test.YtlobnbbndkhcbaaGreatDoorMg03
import Derived.Lib.SmallJoins
import Derived.Test.YtlobnbbndkhcbaaGreatDoorMg04

/- Arguments opened: bytes; and that they read on as long as what was there stays. -/
namespace Go.Proofs.YtlobnbbndkhcbaaGreatDoor
set_option linter.unusedVariables false
open Go.ChangeShapes Go.WideShapes Go.ChangeAt Go.RowKit Go.Deep

theorem list_of {α : Type} {p : Nat → α → Prop} : ∀ (m : Nat), (∀ i, i < m → ∃ x, p i x) → ∃ l : List α, l.length = m ∧ ∀ i x, l[i]? = some x → p i x := by
  intro m
  induction m with
  | zero => exact fun _ => ⟨[], rfl, fun i x h => by simp at h⟩
  | succ m ih =>
    intro h
    obtain ⟨l, hl, hp⟩ := ih fun i hi => h i (by omega)
    obtain ⟨x, hx⟩ := h m (by omega)
    refine ⟨l ++ [x], by simp [hl], fun i y hy => ?_⟩
    rcases Nat.lt_or_ge i l.length with h1 | h1
    · rw [List.getElem?_append_left h1] at hy
      exact hp i y hy
    · rw [List.getElem?_append_right h1] at hy
      have h2 : i - l.length = 0 := by
        rcases Nat.eq_zero_or_pos (i - l.length) with h0 | h0
        · exact h0
        · rw [List.getElem?_eq_none (by simp; omega)] at hy; cases hy
      rw [h2] at hy
      have : x = y := by simpa using hy
      subst this
      have : i = m := by omega
      subst this
      exact hx

theorem Rd.keep {w w' : World} {a : Option Addr} {l : List UInt8} (h : Rd w a l) (f : Fr No w w') : Rd w' a l := ((In.of_rd h).keep f fun _ _ h => h).rd
theorem add_plain (b o i : Nat) : (⟨b, o, none⟩ : Addr).add i = ⟨b, o + i, none⟩ := by unfold Addr.add; split <;> simp_all

/-- Numbers. -/
def Ints (w : World) (a : Option Addr) (l : List Int) : Prop := 0 < l.length → ∃ b o, a = some ⟨b, o, none⟩ ∧ ∀ i x, l[i]? = some x → w.cell? ⟨b, o + i, none⟩ = some (.int .i64 x) ∧ (Lit.int .i64 x).wf = true
theorem Ints.keep {w w' : World} {a : Option Addr} {l : List Int} (h : Ints w a l) (f : Fr No w w') : Ints w' a l := fun hl => by
  obtain ⟨b, o, ha, hx⟩ := h hl
  exact ⟨b, o, ha, fun i x hi => ⟨f.cell (hx i x hi).1 (fun h => h), (hx i x hi).2⟩⟩

section
variable {H : Type} {enc : TypeId × Value → H} {w : World} {base : Nat} {spare : Nat → Bool} {held : Bool}
theorem cellsU8 : Tryz.prog.cellsOf 5 = 1 := by kernel_rfl
theorem cellsInt : Tryz.prog.cellsOf 3 = 1 := by kernel_rfl
theorem bytes_of {fuel : Nat} {v : Value} {y : DataW H × List MemPlace} (h : DataW.trod enc Tryz.prog w base spare held fuel 27 [v] = some y) :
    ∃ a cap l, v = .slice a l.length cap ∧ l.length ≤ cap ∧ cap ≤ maxLen ∧ Rd w a l := by
  rcases open_ints Tryz.underlying27 Tryz.underlying5 cellsU8 h with ⟨hcs, _⟩ | ⟨x, l, c, zs, hcs, _, hl, hm, hz, _, hcell, hwz⟩
  · cases hcs
    exact ⟨none, 0, [], rfl, Nat.le_refl _, by simp [maxLen], Rd.nil _ _⟩
  · cases hcs
    have hzl : l ≤ zs.length := by rw [hz]; split <;> omega
    refine ⟨some x, c, (zs.take l).map byteOf, by congr 1; simp; omega, by simp; omega, hm, ?_⟩
    intro hlen
    have hlen : 0 < l := by simp at hlen; omega
    obtain ⟨b, off, spot⟩ := x
    have hc0 := hcell 0 (by omega)
    have hspot : spot = none := by simpa [Addr.add] using World.cell?_spot hc0
    subst hspot
    refine ⟨b, off, rfl, fun i hi => ?_⟩
    have hi : i < l := by simp at hi; omega
    have h1 := hcell i (by omega)
    rw [add_plain] at h1
    rw [h1]
    have hg : ((zs.take l).map byteOf).getD i 0 = byteOf (zs.getD i 0) := by
      simp [List.getD, hi, show i < zs.length by omega]
    rw [hg, byteOf_nat (hwz _ (by simp [List.getD, show i < zs.length by omega]))]
set_option maxRecDepth 20000 in
/-- A slice that came in, as the readings above take it. -/
theorem slice_trod {t e : TypeId} {v : Value} {d : DataW H} {p : List MemPlace} {bb : Nat} (ht : Tryz.prog.underlying t = some (.slice e)) (hv : Value.okWide Tryz.prog w .any bb t v)
    (h : DataW.Trod enc Tryz.prog w base spare held t v d p) : ∃ fuel y, DataW.trod enc Tryz.prog w base spare held fuel t [v] = some y := by
  obtain ⟨a0, len0, cap0, rfl⟩ := okWide_slice ht hv
  obtain ⟨fuel, hf⟩ := h
  exact ⟨fuel, _, hf⟩
end
end Go.Proofs.YtlobnbbndkhcbaaGreatDoor

/- Layer 12: pairs of texts in memory; a row of pairs that came in, opened; a row of pairs of the call's own. 'tithebarnref12.Pair' and 'block.Pair' are told apart by the type alone. -/
namespace Go.Proofs.YtlobnbbndkhcbaaGreatDoor
set_option linter.unusedVariables false
set_option maxRecDepth 20000
open Go.Joins Go.ChangeShapes Go.WideShapes Go.ChangeAt Go.RowKit Go.Deep

/-- A pair: its key and its value. -/
structure Pr where
  key : ByteArray
  val : ByteArray
def pr0 : Pr := ⟨ByteArray.empty, ByteArray.empty⟩
def prC (x : Pr) : List Value := [.string x.key, .string x.val]
def prV (x : Pr) : Value := .agg #[.string x.key, .string x.val]
def prsC (l : List Pr) : List Value := l.flatMap prC
def PrWf (x : Pr) : Prop := x.key.size ≤ maxLen ∧ x.val.size ≤ maxLen
structure PrAt (w : World) (b o : Nat) (x : Pr) : Prop where
  c0 : w.cell? ⟨b, o, none⟩ = some (.string x.key)
  c1 : w.cell? ⟨b, o + 1, none⟩ = some (.string x.val)
/-- PAIRS that are read, within blocks of S. -/
def Prs (w : World) (S : Nat → Prop) (a : Option Addr) (l : List Pr) : Prop :=
  0 < l.length → ∃ b o, S b ∧ a = some ⟨b, o, none⟩ ∧ ∀ i, i < l.length → PrAt w b (o + i * 2) (l.getD i pr0)
theorem Prs.nil (w : World) (S : Nat → Prop) (a : Option Addr) : Prs w S a [] := fun h => absurd h (by simp)
theorem PrAt.keep {w w' : World} {T : Nat → Prop} {b o : Nat} {x : Pr} (h : PrAt w b o x) (f : Fr T w w') (hn : ¬ T b) : PrAt w' b o x := ⟨f.cell h.c0 hn, f.cell h.c1 hn⟩
theorem Prs.keep {w w' : World} {S T : Nat → Prop} {a : Option Addr} {l : List Pr} (h : Prs w S a l) (f : Fr T w w') (hn : ∀ k, S k → ¬ T k) : Prs w' S a l := fun hl => by
  obtain ⟨b, o, hb, ha, hc⟩ := h hl
  exact ⟨b, o, hb, ha, fun i hi => (hc i hi).keep f (hn b hb)⟩
theorem Prs.sub {w : World} {S T : Nat → Prop} {a : Option Addr} {l : List Pr} (h : Prs w S a l) (hs : ∀ k, k < w.heap.size → S k → T k) : Prs w T a l := fun hl => by
  obtain ⟨b, o, hb, ha, hc⟩ := h hl
  exact ⟨b, o, hs b (cell_block (hc 0 hl).c0) hb, ha, hc⟩
theorem getD_pr (l : List Pr) (i : Nat) (h : i < l.length) : l.getD i pr0 = l[i] := by
  rw [List.getD_eq_getElem?_getD, List.getElem?_eq_getElem h]
  rfl
theorem getD_memPr (l : List Pr) (i : Nat) (h : i < l.length) : l.getD i pr0 ∈ l := by
  rw [getD_pr l i h]
  exact List.getElem_mem h
theorem take_pr (l : List Pr) (k : Nat) (h : k < l.length) : l.take (k + 1) = l.take k ++ [l.getD k pr0] := by
  rw [List.take_add_one, List.getElem?_eq_getElem h, getD_pr l k h]
  rfl
theorem prsC_length (l : List Pr) : (prsC l).length = l.length * 2 := by
  induction l with
  | nil => rfl
  | cons p l ih =>
    show (prC p ++ prsC l).length = _
    rw [List.length_append, ih, List.length_cons]
    simp [prC]
    omega
theorem prsC_get (l : List Pr) : ∀ i, i < l.length → (prsC l)[i * 2]? = some (.string (l.getD i pr0).key) ∧ (prsC l)[i * 2 + 1]? = some (.string (l.getD i pr0).val) := by
  induction l with
  | nil => intro i h; simp at h
  | cons p l ih =>
    intro i h
    have hl : (prC p).length = 2 := rfl
    have e : prsC (p :: l) = prC p ++ prsC l := rfl
    cases i with
    | zero => exact ⟨rfl, rfl⟩
    | succ i =>
      obtain ⟨h1, h2⟩ := ih i (by simpa using h)
      rw [e]
      refine ⟨?_, ?_⟩
      · rw [List.getElem?_append_right (by omega), show (i + 1) * 2 - (prC p).length = i * 2 by omega]; exact h1
      · rw [List.getElem?_append_right (by omega), show (i + 1) * 2 + 1 - (prC p).length = i * 2 + 1 by omega]; exact h2
theorem prsC_append (l m : List Pr) : prsC (l ++ m) = prsC l ++ prsC m := by simp [prsC]
/-- A row of pairs, of the call's own, as it is read. -/
theorem RowG.prs {w : World} {S : Nat → Prop} {e : TypeId} {v : Value} {l : List Pr} (h : RowG w S e 2 v l.length (prsC l)) : ∃ a cap, v = .slice a l.length cap ∧ l.length ≤ cap ∧ cap ≤ maxLen ∧ Prs w S a l := by
  obtain ⟨a, cap, rfl, h1, h2, _, h3⟩ := h.form
  refine ⟨a, cap, rfl, h1, h2, fun hl => ?_⟩
  obtain ⟨b, hb, rfl, hc⟩ := h3 hl
  refine ⟨b, 0, hb, rfl, fun i hi => ?_⟩
  obtain ⟨e1, e2⟩ := prsC_get l i hi
  rw [Nat.zero_add]
  exact ⟨(hc (i * 2) (by omega)).1.trans e1, (hc (i * 2 + 1) (by omega)).1.trans e2⟩
theorem push_pr {P : Program} {t e : TypeId} {z : Value} {n : Nat} (hT : RowT P t e z 2 n) (hn : n ≤ 1000) (W0 wr : World) (vo : Value) (m : Nat) (o : List Pr) (x : Pr) (hm : o.length = m) (hrow : RowG wr (Gr No W0 wr) e 2 vo m (prsC o)) (hfr : Fr No W0 wr) (hl : m ≤ 1000000) :
    ∃ v' w', (Builtin.append_ #[t, t] t #[vo, .slice (some ⟨wr.heap.size, 0, none⟩) 1 1]).run P (wr.alloc (.cells #[.string x.key, .string x.val] e)) = .ok v' w' ∧
      RowG w' (Gr No W0 w') e 2 v' (m + 1) (prsC (o ++ [x])) ∧ Fr No W0 w' := by
  subst hm
  have hb : (o.length + 1) * n ≤ 1000001 * 1000 := Nat.mul_le_mul (by omega) hn
  obtain ⟨v', w', h1, h2, h3⟩ := hrow.push hT (fun q hq => hq.elim (fun h => h.elim) (fun h => h.2)) (prC x) rfl (by intro u hu; simp [prC] at hu; rcases hu with rfl | rfl <;> rfl) (by omega) (by omega)
  refine ⟨v', w', h1, ?_, hfr.then_ h3 fun q hq h => h.elim (fun h => h) (fun h => absurd hq (by omega))⟩
  rw [prsC_append]
  have e : prsC [x] = prC x := by simp [prsC]
  rw [e]
  exact h2.join hfr.size h3.size

section
variable {H : Type} {enc : TypeId × Value → H} {w : World} {base : Nat} {spare : Nat → Bool} {held : Bool}
set_option maxRecDepth 20000 in
theorem prs_of {fuel : Nat} {v : Value} {y : DataW H × List MemPlace} (h : DataW.trod enc Tryz.prog w base spare held fuel 71 [v] = some y) :
    ∃ a cap l, v = .slice a l.length cap ∧ l.length ≤ cap ∧ cap ≤ maxLen ∧ Prs w (fun _ => True) a l ∧ ∀ x ∈ l, PrWf x := by
  rcases open_slice Tryz.underlying71 h with ⟨hcs, _⟩ | ⟨x, len, cap, m, n, D, Pl, hcs, _, hl, hm, hmm, _, hi⟩
  · cases hcs
    exact ⟨none, 0, [], rfl, Nat.le_refl _, by unfold maxLen; omega, fun h => absurd h (by simp), fun x h => absurd h (List.not_mem_nil)⟩
  · cases hcs
    have hml : len ≤ m := by rw [hmm]; split <;> omega
    have hc : Tryz.prog.cellsOf 74 = 2 := by kernel_rfl
    rw [hc] at hi
    obtain ⟨b, off, spot⟩ := x
    have hspot : 0 < len → spot = none := by
      intro h0
      obtain ⟨cs', h1, h2⟩ := hi 0 (by omega)
      obtain ⟨_, hcl, hat⟩ := World.cells?_some h1
      have h3 := hat 0 (by omega)
      rw [List.getElem?_eq_getElem (show 0 < cs'.length by omega)] at h3
      have := World.cell?_spot h3
      simpa [Addr.add] using this
    have hx : ∀ i, i < len → ∃ x : Pr, spot = none ∧ PrAt w b (off + i * 2) x ∧ PrWf x := by
      intro i hil
      have hs := hspot (by omega)
      subst hs
      obtain ⟨cs', h1, h2⟩ := hi i (by omega)
      obtain ⟨_, hcl, hat⟩ := World.cells?_some h1
      obtain ⟨xs, n', hn', hy, hlen, hyl, hf⟩ := DataW.trod_struct Tryz.underlying74 h2
      have a0 := hat 0 (by omega)
      have a1 := hat 1 (by omega)
      match cs', hcl with
      | [u0, u1], _ =>
        rw [add_plain, add_plain] at a0 a1
        have f0 := hf 0 _ rfl
        have f1 := hf 1 _ rfl
        match xs, hyl with
        | [x0, x1], _ =>
          obtain ⟨n0, hn0, _, w0⟩ := DataW.trod_string Tryz.underlying9 f0
          obtain ⟨n1, hn1, _, w1⟩ := DataW.trod_string Tryz.underlying9 f1
          have e0 : u0 = .string n0 := by
            have : [u0] = [Value.string n0] := hn0
            simpa using this
          have e1 : u1 = .string n1 := by
            have : [u1] = [Value.string n1] := hn1
            simpa using this
          subst e0 e1
          exact ⟨⟨n0, n1⟩, rfl, ⟨a0, a1⟩, w0, w1⟩
    obtain ⟨l, hll, hlp⟩ := list_of len hx
    refine ⟨some ⟨b, off, spot⟩, cap, l, by rw [hll], by omega, hm, fun h0 => ?_, ?_⟩
    · have hs : spot = none := (hlp 0 (l[0]'h0) (List.getElem?_eq_getElem h0)).1
      subst hs
      exact ⟨b, off, trivial, rfl, fun i hi => (hlp i _ (by rw [getD_pr l i hi]; exact List.getElem?_eq_getElem hi)).2.1⟩
    · intro x hx
      obtain ⟨i, hi, rfl⟩ := List.getElem_of_mem hx
      exact (hlp i _ (List.getElem?_eq_getElem hi)).2.2
end
end Go.Proofs.YtlobnbbndkhcbaaGreatDoor

/- Layer 12: plain mathematics: what two texts share; pairs in order; their bytes; where a key stands. No program is named. -/
namespace Go.Proofs.YtlobnbbndkhcbaaGreatDoor
set_option linter.unusedVariables false

/-! ### What two texts share. -/
def shL : List UInt8 → List UInt8 → Nat
  | x :: a, y :: b => if x = y then shL a b + 1 else 0
  | _, _ => 0
theorem shL_nil (b : List UInt8) : shL [] b = 0 := by cases b <;> rfl
theorem shL_nil' (a : List UInt8) : shL a [] = 0 := by cases a <;> rfl
theorem shL_cons (x y : UInt8) (a b : List UInt8) : shL (x :: a) (y :: b) = if x = y then shL a b + 1 else 0 := rfl
theorem shL_comm : ∀ (a b : List UInt8), shL a b = shL b a
  | [], b => by rw [shL_nil, shL_nil']
  | x :: a, [] => rfl
  | x :: a, y :: b => by
    unfold shL
    rw [shL_comm a b]
    by_cases h : x = y
    · rw [if_pos h, if_pos h.symm]
    · rw [if_neg h, if_neg fun h' => h h'.symm]
theorem shL_le : ∀ (a b : List UInt8), shL a b ≤ a.length ∧ shL a b ≤ b.length
  | [], b => by rw [shL_nil]; omega
  | x :: a, [] => by rw [shL_nil']; omega
  | x :: a, y :: b => by
    have := shL_le a b
    unfold shL
    split <;> simp <;> omega
theorem shL_take : ∀ (a b : List UInt8), a.take (shL a b) = b.take (shL a b)
  | [], b => by rw [shL_nil]; rfl
  | x :: a, [] => by rw [shL_nil']; rfl
  | x :: a, y :: b => by
    unfold shL
    split
    · rename_i h
      rw [List.take_succ_cons, List.take_succ_cons, h, shL_take a b]
    · rfl
theorem drop_c (l : List UInt8) (k : Nat) (h : k < l.length) : l.drop k = l.getD k 0 :: l.drop (k + 1) := by
  rw [List.drop_eq_getElem_cons h]
  simp [List.getD, h]
theorem sh_step (a b : List UInt8) (k : Nat) (ha : k < a.length) (hb : k < b.length) (he : shL a b = k + shL (a.drop k) (b.drop k)) :
    (a.getD k 0 ≠ b.getD k 0 → shL a b = k) ∧ (a.getD k 0 = b.getD k 0 → shL a b = (k + 1) + shL (a.drop (k + 1)) (b.drop (k + 1))) := by
  rw [drop_c a k ha, drop_c b k hb, shL_cons] at he
  constructor
  · intro h
    rw [if_neg h] at he
    exact he
  · intro h
    rw [if_pos h] at he
    omega
theorem sh_end (a b : List UInt8) (k : Nat) (h : a.length = k ∨ b.length = k) (he : shL a b = k + shL (a.drop k) (b.drop k)) : shL a b = k := by
  rcases h with h | h
  · rw [List.drop_of_length_le (by omega : a.length ≤ k), shL_nil] at he; exact he
  · rw [List.drop_of_length_le (by omega : b.length ≤ k), shL_nil'] at he; exact he

/-! ### Pairs in order; the first that is not below. -/
def cmpP (l : List Pr) (i j : Nat) : Int := cmpB (bs (l.getD i pr0).key) (bs (l.getD j pr0).key)
def ordP (l : List Pr) : Prop := ∀ i, 1 ≤ i → i < l.length → cmpP l (i - 1) i < 0
instance (l : List Pr) : Decidable (ordP l) := decidable_of_iff (∀ i, i < l.length → 1 ≤ i → cmpP l (i - 1) i < 0) ⟨fun h i h1 h2 => h i h2 h1, fun h i h1 h2 => h i h2 h1⟩
/-- Is a key at place i not below k? -/
def notBelow (l : List Pr) (k : ByteArray) (i : Nat) : Prop := 0 ≤ cmpB (bs (l.getD i pr0).key) (bs k)
def findG (l : List Pr) (k : ByteArray) : Nat → Nat → Nat
  | 0, i => i
  | n + 1, i => if 0 ≤ cmpB (bs (l.getD i pr0).key) (bs k) then i else findG l k n (i + 1)
def findP (l : List Pr) (k : ByteArray) : Nat := findG l k l.length 0
theorem find_step (l : List Pr) (k : ByteArray) (i : Nat) (hi : i < l.length) (he : findP l k = findG l k (l.length - i) i) :
    (notBelow l k i → findP l k = i) ∧ (¬ notBelow l k i → findP l k = findG l k (l.length - (i + 1)) (i + 1)) := by
  obtain ⟨n, hn⟩ : ∃ n, l.length - i = n + 1 := ⟨l.length - i - 1, by omega⟩
  rw [hn] at he
  have hn' : l.length - (i + 1) = n := by omega
  rw [hn']
  unfold findG at he
  unfold notBelow
  exact ⟨fun h => by rw [if_pos h] at he; exact he, fun h => by rw [if_neg h] at he; exact he⟩
theorem findG_is (l : List Pr) (k : ByteArray) : ∀ (n i : Nat), i + n = l.length → i ≤ findG l k n i ∧ findG l k n i ≤ l.length ∧ (∀ j, i ≤ j → j < findG l k n i → ¬ notBelow l k j) ∧ (findG l k n i < l.length → notBelow l k (findG l k n i))
  | 0, i, h => ⟨Nat.le_refl _, by simp [findG]; omega, fun j h1 h2 => by simp [findG] at h2; omega, fun h1 => by simp [findG] at h1; omega⟩
  | n + 1, i, h => by
    unfold findG
    split
    · rename_i hc
      exact ⟨Nat.le_refl _, by omega, fun j h1 h2 => by omega, fun _ => hc⟩
    · rename_i hc
      obtain ⟨h1, h2, h3, h4⟩ := findG_is l k n (i + 1) (by omega)
      refine ⟨by omega, h2, fun j j1 j2 => ?_, h4⟩
      rcases Nat.lt_or_ge i j with h' | h'
      · exact h3 j h' j2
      · obtain rfl : i = j := by omega
        exact hc
theorem findP_is (l : List Pr) (k : ByteArray) : findP l k ≤ l.length ∧ (∀ j, j < findP l k → ¬ notBelow l k j) ∧ (findP l k < l.length → notBelow l k (findP l k)) := by
  obtain ⟨_, h2, h3, h4⟩ := findG_is l k l.length 0 (by omega)
  exact ⟨h2, fun j hj => h3 j (Nat.zero_le _) hj, h4⟩
theorem findP_only {l : List Pr} {k : ByteArray} {i : Nat} (hi : i ≤ l.length) (h1 : ∀ j, j < i → ¬ notBelow l k j) (h2 : i < l.length → notBelow l k i) : findP l k = i := by
  obtain ⟨a, b, c⟩ := findP_is l k
  rcases Nat.lt_trichotomy (findP l k) i with h | h | h
  · exact absurd (c (by omega)) (h1 _ h)
  · exact h
  · exact absurd (h2 (by omega)) (b _ h)

/-! ### The bytes of pairs. -/
def headN (e : Nat) (l : List Pr) (i : Nat) : Nat := if i % e = 0 then 0 else shL (bs (l.getD i pr0).key) (bs (l.getD (i - 1) pr0).key)
def pairB (e : Nat) (l : List Pr) (i : Nat) : List UInt8 :=
  enc (headN e l i) ++ (enc ((l.getD i pr0).key.size - headN e l i) ++ (enc (l.getD i pr0).val.size ++ ((bs (l.getD i pr0).key).drop (headN e l i) ++ bs (l.getD i pr0).val)))
def pairsB (e : Nat) (l : List Pr) : Nat → List UInt8
  | 0 => []
  | k + 1 => pairsB e l k ++ pairB e l k
def startsN (e : Nat) (l : List Pr) : Nat → List Nat
  | 0 => []
  | k + 1 => if k % e = 0 then startsN e l k ++ [(pairsB e l k).length] else startsN e l k
def word4 (n : Nat) : List UInt8 := [UInt8.ofNat (n / 16777216), UInt8.ofNat (n / 65536 % 256), UInt8.ofNat (n / 256 % 256), UInt8.ofNat (n % 256)]
def wordsB (l : List Nat) : List UInt8 := l.flatMap word4
def blockB (e : Nat) (l : List Pr) : List UInt8 := ((pairsB e l l.length ++ wordsB (startsN e l l.length)) ++ word4 (startsN e l l.length).length) ++ [UInt8.ofNat e]
theorem headN_le (e : Nat) (l : List Pr) (i : Nat) : headN e l i ≤ (l.getD i pr0).key.size := by
  unfold headN
  split
  · omega
  · rw [← bs_length]; exact (shL_le _ _).1
theorem startsN_len (e : Nat) (l : List Pr) : ∀ k, (startsN e l k).length ≤ k
  | 0 => Nat.le_refl _
  | k + 1 => by
    have := startsN_len e l k
    unfold startsN
    split <;> simp <;> omega
theorem word4_len (n : Nat) : (word4 n).length = 4 := rfl
theorem wordsB_append (l m : List Nat) : wordsB (l ++ m) = wordsB l ++ wordsB m := by simp [wordsB]
theorem wordsB_one (n : Nat) : wordsB [n] = word4 n := by simp [wordsB]
theorem wordsB_len (l : List Nat) : (wordsB l).length = 4 * l.length := by
  induction l with
  | nil => rfl
  | cons n l ih =>
    show (word4 n ++ wordsB l).length = _
    rw [List.length_append, ih, word4_len, List.length_cons]
    omega
/-- What may be gone through. -/
def Low (m : Nat) (l : List Pr) : Prop := ∀ i, i < l.length → (l.getD i pr0).key.size ≤ m ∧ (l.getD i pr0).val.size ≤ m
theorem pairB_len (e : Nat) (l : List Pr) (i : Nat) (m : Nat) (hm : m ≤ 1000000) (h : (l.getD i pr0).key.size ≤ m ∧ (l.getD i pr0).val.size ≤ m) : (pairB e l i).length ≤ 27 + 2 * m := by
  have h0 := headN_le e l i
  have h1 := enc_len9 (show headN e l i < 9223372036854775808 by omega)
  have h2 := enc_len9 (show (l.getD i pr0).key.size - headN e l i < 9223372036854775808 by omega)
  have h3 := enc_len9 (show (l.getD i pr0).val.size < 9223372036854775808 by omega)
  unfold pairB
  simp only [List.length_append, List.length_drop, bs_length]
  omega
theorem pairsB_len (e : Nat) (l : List Pr) (m : Nat) (hm : m ≤ 1000000) (h : Low m l) : ∀ k, k ≤ l.length → (pairsB e l k).length ≤ k * (27 + 2 * m)
  | 0, _ => by simp [pairsB]
  | k + 1, hk => by
    have h1 := pairsB_len e l m hm h k (by omega)
    have h2 := pairB_len e l k m hm (h k (by omega))
    unfold pairsB
    rw [List.length_append, Nat.succ_mul]
    omega
theorem startsN_lt (e : Nat) (l : List Pr) (N : Nat) : ∀ k, (∀ j, j < k → (pairsB e l j).length < N) → ∀ x ∈ startsN e l k, x < N
  | 0, _, x, hx => by simp [startsN] at hx
  | k + 1, h, x, hx => by
    unfold startsN at hx
    split at hx
    · rw [List.mem_append, List.mem_singleton] at hx
      rcases hx with hx | hx
      · exact startsN_lt e l N k (fun j hj => h j (by omega)) x hx
      · rw [hx]; exact h k (by omega)
    · exact startsN_lt e l N k (fun j hj => h j (by omega)) x hx
end Go.Proofs.YtlobnbbndkhcbaaGreatDoor

/- Layer 12: plain mathematics: a block's bytes say its pairs and its number. No program is named. -/
namespace Go.Proofs.YtlobnbbndkhcbaaGreatDoor
set_option linter.unusedVariables false

theorem pow_gt (n : Nat) : n < 128 ^ (n + 1) := by
  induction n with
  | zero => decide
  | succ n ih =>
    rw [Nat.pow_succ]
    omega
theorem enc_free {a b : Nat} {r s : List UInt8} (h : enc a ++ r = enc b ++ s) : a = b ∧ r = s := by
  have ha : a < 128 ^ (a + b + 1) := Nat.lt_of_lt_of_le (pow_gt a) (Nat.pow_le_pow_right (by omega) (by omega))
  have hb : b < 128 ^ (a + b + 1) := Nat.lt_of_lt_of_le (pow_gt b) (Nat.pow_le_pow_right (by omega) (by omega))
  have e1 := dec_enc (a + b + 1) 0 a r ha (by omega) (by omega)
  have e2 := dec_enc (a + b + 1) 0 b s hb (by omega) (by omega)
  rw [h, e2] at e1
  have e3 : b = a := congrArg Prod.fst (Option.some.inj e1)
  subst e3
  exact ⟨rfl, List.append_cancel_left h⟩
theorem u8_inj {a b : Nat} (ha : a < 256) (hb : b < 256) (h : UInt8.ofNat a = UInt8.ofNat b) : a = b := by
  have := congrArg UInt8.toNat h
  rw [toNat_ofNat ha, toNat_ofNat hb] at this
  exact this
theorem word4_inj {a b : Nat} (ha : a < 4294967296) (hb : b < 4294967296) (h : word4 a = word4 b) : a = b := by
  unfold word4 at h
  simp only [List.cons.injEq, and_true] at h
  obtain ⟨h0, h1, h2, h3⟩ := h
  have h0 := u8_inj (by omega) (by omega) h0
  have h1 := u8_inj (by omega) (by omega) h1
  have h2 := u8_inj (by omega) (by omega) h2
  have h3 := u8_inj (by omega) (by omega) h3
  omega
theorem pairB_pos (e : Nat) (l : List Pr) (i : Nat) : 3 ≤ (pairB e l i).length := by
  have h1 := enc_pos (headN e l i)
  have h2 := enc_pos ((l.getD i pr0).key.size - headN e l i)
  have h3 := enc_pos (l.getD i pr0).val.size
  unfold pairB
  simp only [List.length_append]
  omega
theorem pairsB_ge (e : Nat) (l : List Pr) : ∀ k, 3 * k ≤ (pairsB e l k).length
  | 0 => by simp
  | k + 1 => by
    have h1 := pairsB_ge e l k
    have h2 := pairB_pos e l k
    unfold pairsB
    rw [List.length_append]
    omega
/-- The bytes from pair k on, n of them. -/
def restB (e : Nat) (l : List Pr) : Nat → Nat → List UInt8
  | 0, _ => []
  | n + 1, k => pairB e l k ++ restB e l n (k + 1)
theorem pairsB_rest (e : Nat) (l : List Pr) : ∀ n k, pairsB e l (k + n) = pairsB e l k ++ restB e l n k
  | 0, k => by simp [restB]
  | n + 1, k => by
    rw [show k + (n + 1) = (k + 1) + n by omega, pairsB_rest e l n (k + 1)]
    show (pairsB e l k ++ pairB e l k) ++ _ = _
    rw [List.append_assoc]
    rfl
/-- A key, out of the one ahead and of what its bytes say. -/
theorem key_is (e : Nat) (l : List Pr) (i : Nat) (hi : 1 ≤ i ∨ i % e = 0) : bs (l.getD i pr0).key = (bs (l.getD (i - 1) pr0).key).take (headN e l i) ++ (bs (l.getD i pr0).key).drop (headN e l i) := by
  unfold headN
  split
  · simp
  · rw [← shL_take, List.take_append_drop]
theorem bs_inj' {s t : ByteArray} (h : bs s = bs t) : s = t := by
  rcases s with ⟨⟨a⟩⟩
  rcases t with ⟨⟨b⟩⟩
  unfold bs at h
  simp only at h
  rw [h]
theorem pairB_free {e : Nat} {l l' : List Pr} {k : Nat} {r s : List UInt8} (hp : 1 ≤ k → l.getD (k - 1) pr0 = l'.getD (k - 1) pr0) (h : pairB e l k ++ r = pairB e l' k ++ s) : l.getD k pr0 = l'.getD k pr0 ∧ r = s := by
  unfold pairB at h
  simp only [List.append_assoc] at h
  obtain ⟨e1, h⟩ := enc_free h
  obtain ⟨e2, h⟩ := enc_free h
  obtain ⟨e3, h⟩ := enc_free h
  have l1 : ((bs (l.getD k pr0).key).drop (headN e l k)).length = ((bs (l'.getD k pr0).key).drop (headN e l' k)).length := by
    rw [List.length_drop, List.length_drop, bs_length, bs_length]
    exact e2
  obtain ⟨e4, h⟩ := List.append_inj h l1
  obtain ⟨e5, h⟩ := List.append_inj h (by rw [bs_length, bs_length]; exact e3)
  refine ⟨?_, h⟩
  have hk : bs (l.getD k pr0).key = bs (l'.getD k pr0).key := by
    rcases Nat.eq_zero_or_pos k with h0 | h0
    · have z : ∀ m : List Pr, headN e m k = 0 := fun m => by unfold headN; rw [h0, Nat.zero_mod, if_pos rfl]
      rw [z, z] at e4
      simpa using e4
    · rw [key_is e l k (.inl h0), key_is e l' k (.inl h0), e4, e1, hp h0]
  have h1 : (l.getD k pr0).key = (l'.getD k pr0).key := bs_inj' hk
  have h2 : (l.getD k pr0).val = (l'.getD k pr0).val := bs_inj' e5
  cases hx : l.getD k pr0
  cases hy : l'.getD k pr0
  rw [hx, hy] at h1 h2
  simp only at h1 h2
  rw [h1, h2]
theorem rest_free {e : Nat} {l l' : List Pr} : ∀ (n n' k : Nat), (∀ j, j < k → l.getD j pr0 = l'.getD j pr0) → restB e l n k = restB e l' n' k → n = n' ∧ ∀ j, j < k + n → l.getD j pr0 = l'.getD j pr0
  | 0, 0, k, hp, _ => ⟨rfl, hp⟩
  | 0, n' + 1, k, hp, h => by
    have := congrArg List.length h
    have z := pairB_pos e l' k
    unfold restB at this
    simp only [List.length_append, List.length_nil] at this
    omega
  | n + 1, 0, k, hp, h => by
    have := congrArg List.length h
    have z := pairB_pos e l k
    unfold restB at this
    simp only [List.length_append, List.length_nil] at this
    omega
  | n + 1, n' + 1, k, hp, h => by
    obtain ⟨h1, h2⟩ := pairB_free (fun hk => hp (k - 1) (by omega)) h
    obtain ⟨h3, h4⟩ := rest_free n n' (k + 1) (fun j hj => by
      rcases Nat.lt_or_ge j k with h' | h'
      · exact hp j h'
      · obtain rfl : j = k := by omega
        exact h1) h2
    exact ⟨by omega, fun j hj => h4 j (by omega)⟩
theorem pairsB_inj {e : Nat} {l l' : List Pr} (h : pairsB e l l.length = pairsB e l' l'.length) : l = l' := by
  have e1 := pairsB_rest e l l.length 0
  have e2 := pairsB_rest e l' l'.length 0
  rw [Nat.zero_add] at e1 e2
  rw [e1, e2] at h
  obtain ⟨h1, h2⟩ := rest_free l.length l'.length 0 (fun j hj => absurd hj (Nat.not_lt_zero j)) (List.append_cancel_left h)
  refine List.ext_getElem h1 fun i a b => ?_
  have := h2 i (by omega)
  rw [getD_pr l i a, getD_pr l' i b] at this
  exact this
theorem pairB_ge (e : Nat) (l : List Pr) (i : Nat) : (l.getD i pr0).key.size - headN e l i + (l.getD i pr0).val.size ≤ (pairB e l i).length := by
  unfold pairB
  simp only [List.length_append, List.length_drop, bs_length]
  omega
theorem key_len (e : Nat) (l : List Pr) : ∀ i, (l.getD i pr0).key.size ≤ (pairsB e l (i + 1)).length ∧ (l.getD i pr0).val.size ≤ (pairsB e l (i + 1)).length := fun i => by
  have h1 := pairB_ge e l i
  have e1 : (pairsB e l (i + 1)).length = (pairsB e l i).length + (pairB e l i).length := by
    show (pairsB e l i ++ pairB e l i).length = _
    rw [List.length_append]
  rw [e1]
  rcases Nat.eq_zero_or_pos i with h0 | h0
  · have h2 : headN e l i = 0 := by unfold headN; rw [h0, Nat.zero_mod, if_pos rfl]
    omega
  · have h2 : headN e l i ≤ (pairsB e l i).length := by
      obtain ⟨j, rfl⟩ : ∃ j, i = j + 1 := ⟨i - 1, by omega⟩
      have h3 := (key_len e l j).1
      unfold headN
      split
      · omega
      · have := (shL_le (bs (l.getD (j + 1) pr0).key) (bs (l.getD (j + 1 - 1) pr0).key)).2
        rw [bs_length, Nat.add_sub_cancel] at this
        rw [Nat.add_sub_cancel]
        omega
    omega
theorem blockB_len (e : Nat) (l : List Pr) : (blockB e l).length = (pairsB e l l.length).length + 4 * (startsN e l l.length).length + 5 := by
  unfold blockB
  simp only [List.length_append, wordsB_len, word4_len, List.length_singleton]
theorem blockB_small {e : Nat} {l : List Pr} (h : Low 300 l) (hl : l.length ≤ 80) : (blockB e l).length ≤ 60000 := by
  have h1 := pairsB_len e l 300 (by omega) h l.length (Nat.le_refl _)
  have h2 := startsN_len e l l.length
  have h3 : l.length * (27 + 2 * 300) ≤ 80 * (27 + 2 * 300) := Nat.mul_le_mul_right _ hl
  rw [blockB_len]
  omega
/-- A BLOCK'S BYTES SAY ITS PAIRS AND ITS NUMBER. -/
theorem blockB_inj {e e' : Nat} {l l' : List Pr} (he : e ≤ 64) (he' : e' ≤ 64) (hl : (blockB e l).length ≤ 100000) (h : blockB e' l' = blockB e l) : e' = e ∧ l' = l := by
  have hlen := congrArg List.length h
  have hl' : (blockB e' l').length ≤ 100000 := by omega
  have g := pairsB_ge e l l.length
  have g' := pairsB_ge e' l' l'.length
  have b := blockB_len e l
  have b' := blockB_len e' l'
  unfold blockB at h
  obtain ⟨h1, h2⟩ := List.append_inj' h rfl
  simp only [List.cons.injEq, and_true] at h2
  have h2 := u8_inj (by omega) (by omega) h2
  subst h2
  refine ⟨rfl, ?_⟩
  obtain ⟨h3, h4⟩ := List.append_inj' h1 rfl
  have s := startsN_len e' l l.length
  have s' := startsN_len e' l' l'.length
  have h4 := word4_inj (by omega) (by omega) h4
  obtain ⟨h5, h6⟩ := List.append_inj' h3 (by rw [wordsB_len, wordsB_len, h4])
  exact pairsB_inj h5
end Go.Proofs.YtlobnbbndkhcbaaGreatDoor
