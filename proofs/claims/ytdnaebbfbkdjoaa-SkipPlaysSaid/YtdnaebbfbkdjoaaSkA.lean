/-
  Layer 5: the document's list in memory; contracts of its Find, Above and Below.
-/
import Derived.Test.YtdnaebbfbkdjoaaMemG
import Derived.Lib.Hide
import Derived.Handy
namespace Go.Proofs.Ytdnaebbfbkdjoaa
set_option linter.unusedVariables false
open Go.RowKit

structure Pr where
  k : Int
  v : Int
  h : Int
abbrev i64 (x : Int) : Value := .int .i64 x
def prC (p : Pr) : List Value := [i64 p.k, i64 p.v, i64 p.h]
def prsC (l : List Pr) : List Value := l.flatMap prC
def pr0 : Pr := ⟨0, 0, 0⟩
theorem prsC_length (l : List Pr) : (prsC l).length = l.length * 3 := by
  induction l with
  | nil => rfl
  | cons p l ih =>
    show (prC p ++ prsC l).length = _
    rw [List.length_append, ih, List.length_cons]
    simp [prC]
    omega
theorem prsC_get (l : List Pr) : ∀ i, i < l.length → (prsC l)[i * 3]? = some (i64 (l.getD i pr0).k) ∧ (prsC l)[i * 3 + 1]? = some (i64 (l.getD i pr0).v) ∧ (prsC l)[i * 3 + 2]? = some (i64 (l.getD i pr0).h) := by
  induction l with
  | nil => intro i h; simp at h
  | cons p l ih =>
    intro i h
    have hl : (prC p).length = 3 := rfl
    have e : prsC (p :: l) = prC p ++ prsC l := rfl
    cases i with
    | zero => exact ⟨rfl, rfl, rfl⟩
    | succ i =>
      obtain ⟨h1, h2, h3⟩ := ih i (by simpa using h)
      rw [e]
      refine ⟨?_, ?_, ?_⟩
      · rw [List.getElem?_append_right (by omega), show (i + 1) * 3 - (prC p).length = i * 3 by omega]; exact h1
      · rw [List.getElem?_append_right (by omega), show (i + 1) * 3 + 1 - (prC p).length = i * 3 + 1 by omega]; exact h2
      · rw [List.getElem?_append_right (by omega), show (i + 1) * 3 + 2 - (prC p).length = i * 3 + 2 by omega]; exact h3
theorem prsC_append (l m : List Pr) : prsC (l ++ m) = prsC l ++ prsC m := by simp [prsC]
/-- THE DOCUMENT's LIST: its block and its row's are of X. -/
structure RL (w : World) (X : Nat → Prop) (b : Nat) (l : List Pr) : Prop where
  ob : ∃ v, At w b 30 #[v] ∧ RowG w X 41 3 v l.length (prsC l) ∧ (∀ g, v.ownBlock = some g → g ≠ b)
  xb : X b
theorem RL.keep {w w' : World} {X T : Nat → Prop} {b : Nat} {l : List Pr} (h : RL w X b l) (f : Fr T w w') (hn : ∀ k, X k → ¬ T k) : RL w' X b l := by
  obtain ⟨v, h1, h2, h3⟩ := h.ob
  exact ⟨⟨v, h1.keep f (hn b h.xb), h2.keep f hn, h3⟩, h.xb⟩
/-- What is read of it. -/
theorem RL.cells {w : World} {X : Nat → Prop} {b : Nat} {l : List Pr} (h : RL w X b l) : ∃ a cap, w.cell? ⟨b, 0, none⟩ = some (.slice a l.length cap) ∧ w.frozen? ⟨b, 0, none⟩ = false ∧ l.length ≤ cap ∧ cap ≤ maxLen ∧
    (0 < l.length → ∃ g, X g ∧ g ≠ b ∧ a = some ⟨g, 0, none⟩ ∧ ∀ i, i < l.length → w.cell? ⟨g, i * 3, none⟩ = some (i64 (l.getD i pr0).k) ∧ w.cell? ⟨g, i * 3 + 1, none⟩ = some (i64 (l.getD i pr0).v) ∧ w.cell? ⟨g, i * 3 + 2, none⟩ = some (i64 (l.getD i pr0).h) ∧ w.frozen? ⟨g, i * 3 + 1, none⟩ = false) := by
  obtain ⟨v, h1, h2, h3⟩ := h.ob
  obtain ⟨a, cap, rfl, h4, h5, h6, h7⟩ := h2.form
  have c0 := h1.cell 0
  simp at c0
  refine ⟨a, cap, c0, h1.frozen 0, h4, h5, fun hl => ?_⟩
  obtain ⟨g, hg, rfl, hc⟩ := h7 hl
  refine ⟨g, hg, h3 g rfl, rfl, fun i hi => ?_⟩
  obtain ⟨e1, e2, e3⟩ := prsC_get l i hi
  exact ⟨(hc (i * 3) (by omega)).1.trans e1, (hc (i * 3 + 1) (by omega)).1.trans e2, (hc (i * 3 + 2) (by omega)).1.trans e3, (hc (i * 3 + 1) (by omega)).2⟩

/-- The first place from i on, -1: none. -/
def firstAt (p : Pr → Bool) : List Pr → Nat → Int
  | [], _ => -1
  | x :: xs, i => if p x then (i : Int) else firstAt p xs (i + 1)
theorem firstAt_drop (p : Pr → Bool) (l : List Pr) : ∀ i, i ≤ l.length → (∀ j, j < i → p (l.getD j pr0) = false) → firstAt p l 0 = firstAt p (l.drop i) i := by
  intro i
  induction i with
  | zero => intro _ _; rfl
  | succ i ih =>
    intro hi hj
    rw [ih (by omega) (fun j h => hj j (by omega))]
    have e : l.drop i = l[i] :: l.drop (i + 1) := List.drop_eq_getElem_cons (by omega)
    rw [e]
    have hp := hj i (by omega)
    simp only [List.getD_eq_getElem?_getD, List.getElem?_eq_getElem (show i < l.length by omega), Option.getD_some] at hp
    simp [firstAt, hp]
theorem firstAt_yes (p : Pr → Bool) (l : List Pr) (i : Nat) (hi : i < l.length) (hj : ∀ j, j < i → p (l.getD j pr0) = false) (hp : p (l.getD i pr0) = true) : firstAt p l 0 = (i : Int) := by
  rw [firstAt_drop p l i (by omega) hj, List.drop_eq_getElem_cons hi]
  simp only [List.getD_eq_getElem?_getD, List.getElem?_eq_getElem hi, Option.getD_some] at hp
  simp [firstAt, hp]
theorem firstAt_no (p : Pr → Bool) (l : List Pr) (hj : ∀ j, j < l.length → p (l.getD j pr0) = false) : firstAt p l 0 = -1 := by
  rw [firstAt_drop p l l.length (Nat.le_refl _) hj, List.drop_length]
  rfl
/-- The last place below n, -1: none. -/
def lastTo (p : Pr → Bool) (l : List Pr) : Nat → Int
  | 0 => -1
  | n + 1 => if p (l.getD n pr0) then (n : Int) else lastTo p l n
def findI (l : List Pr) (k : Int) : Int := firstAt (fun x => x.k == k) l 0
def aboveP (k : Int) (same : Bool) (x : Pr) : Bool := decide (k < x.k) || (same && x.k == k)
def belowP (k : Int) (same : Bool) (x : Pr) : Bool := decide (x.k < k) || (same && x.k == k)
def aboveI (l : List Pr) (k : Int) (same : Bool) : Int := firstAt (aboveP k same) l 0
def belowI (l : List Pr) (k : Int) (same : Bool) : Int := lastTo (belowP k same) l l.length
set_option maxRecDepth 20000 in
set_option maxHeartbeats 800000 in
theorem refFind_c (X : Nat → Prop) (b : Nat) (l : List Pr) (k : Int) (w : World) (h : RL w X b l) :
    Calls Try.prog 14 #[.pointer (some ⟨b, 0, none⟩), .int .i64 k] w fun e w' => e = .returned (.int .i64 (findI l k)) ∧ w = w' := by
  obtain ⟨a, cap, c0, _, hc1, hc2, hcells⟩ := h.cells
  unfold maxLen at hc2
  have HY := Lib.hid (firstAt_yes (fun x => x.k == k) l)
  have HN := Lib.hid (firstAt_no (fun x => x.k == k) l)
  have HC := Lib.hid hcells
  have HD : Hid (findI l k = firstAt (fun x => x.k == k) l 0) := Lib.hid rfl
  clear h hcells
  generalize l.length = n at *
  go_enter Try.func14, Try.ntmps14
  go_wp2_with fail
  go_loopw [5] (fun i wr => ∃ j : Nat, i = .int .i64 j ∧ j ≤ n ∧ w = wr ∧ ∀ t, t < j → ((l.getD t pr0).k == k) = false) (fun i _ => n - (intOf i).toNat)
  case atStart => exact ⟨0, rfl, Nat.zero_le _, rfl, fun t h => absurd h (Nat.not_lt_zero t)⟩
  case round =>
    obtain ⟨j, rfl, hj, rfl, hall⟩ := hrel
    have HA := Lib.hid hall
    clear hall
    by_cases h1 : j < n
    · obtain ⟨g, _, _, rfl, hx⟩ := HC.out (by omega)
      obtain ⟨q0, q1, q2, _⟩ := hx j h1
      cases hb : (l.getD j pr0).k == k with
      | true =>
        have HR := Lib.hid (HD.out.trans (HY.out j h1 HA.out hb))
        generalize (l.getD j pr0).k = x at *
        generalize (l.getD j pr0).v = y at *
        generalize (l.getD j pr0).h = z at *
        clear hx
        go_wp2_with fail
        go_ret
        exact ⟨congrArg (fun x => Ending.returned (.int .i64 x)) HR.out.symm, rfl⟩
      | false =>
        have HA2 : Hid (∀ t, t < j + 1 → ((l.getD t pr0).k == k) = false) := Lib.hid fun t ht => by
          rcases Nat.lt_or_ge t j with h | h
          · exact HA.out t h
          · obtain rfl : t = j := by omega
            exact hb
        generalize (l.getD j pr0).k = x at *
        generalize (l.getD j pr0).v = y at *
        generalize (l.getD j pr0).h = z at *
        clear hx
        go_wp2_with fail
        go_roundw
        case rel => exact ⟨j + 1, by simp, by omega, by simp, HA2.out⟩
        case measure => simp [intOf]; omega
    · have hjn : j = n := by omega
      subst hjn
      have HR := Lib.hid (HD.out.trans (HN.out HA.out))
      go_wp2_with fail
      go_ret
      exact ⟨congrArg (fun x => Ending.returned (.int .i64 x)) HR.out.symm, rfl⟩
end Go.Proofs.Ytdnaebbfbkdjoaa
