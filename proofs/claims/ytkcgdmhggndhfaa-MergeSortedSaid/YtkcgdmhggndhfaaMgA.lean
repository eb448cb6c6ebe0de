/-
  Layer 6: pairs of numbers in memory; contracts of the document's Has, Ceil, Run.
-/
import Derived.Test.YtkcgdmhggndhfaaMemG
import Derived.Lib.Hide
import Derived.Handy
namespace Go.Proofs.Ytkcgdmhggndhfaa
set_option linter.unusedVariables false
open Go.RowKit

abbrev P2 := Int × Int
def p20 : P2 := (0, 0)
/-- PAIRS that are read, within blocks of S. -/
def InP (w : World) (S : Nat → Prop) (a : Option Addr) (l : List P2) : Prop :=
  0 < l.length → ∃ b o, S b ∧ a = some ⟨b, o, none⟩ ∧ ∀ i, i < l.length → w.cell? ⟨b, o + i * 2, none⟩ = some (.int .i64 (l.getD i p20).1) ∧ w.cell? ⟨b, o + i * 2 + 1, none⟩ = some (.int .i64 (l.getD i p20).2)
theorem InP.nil (w : World) (S : Nat → Prop) (a : Option Addr) : InP w S a [] := fun h => absurd h (by simp)
theorem InP.keep {w w' : World} {S T : Nat → Prop} {a : Option Addr} {l : List P2} (h : InP w S a l) (f : Fr T w w') (hn : ∀ k, S k → ¬ T k) : InP w' S a l := fun hl => by
  obtain ⟨b, o, hb, ha, hc⟩ := h hl
  exact ⟨b, o, hb, ha, fun i hi => ⟨f.cell (hc i hi).1 (hn b hb), f.cell (hc i hi).2 (hn b hb)⟩⟩
theorem InP.sub {w : World} {S T : Nat → Prop} {a : Option Addr} {l : List P2} (h : InP w S a l) (hs : ∀ k, k < w.heap.size → S k → T k) : InP w T a l := fun hl => by
  obtain ⟨b, o, hb, ha, hc⟩ := h hl
  exact ⟨b, o, hs b (cell_block (hc 0 hl).1) hb, ha, hc⟩
def p2C (p : P2) : List Value := [.int .i64 p.1, .int .i64 p.2]
def p2sC (l : List P2) : List Value := l.flatMap p2C
theorem p2sC_length (l : List P2) : (p2sC l).length = l.length * 2 := by
  induction l with
  | nil => rfl
  | cons p l ih =>
    show (p2C p ++ p2sC l).length = _
    rw [List.length_append, ih, List.length_cons]
    simp [p2C]
    omega
theorem p2sC_get (l : List P2) : ∀ i, i < l.length → (p2sC l)[i * 2]? = some (.int .i64 (l.getD i p20).1) ∧ (p2sC l)[i * 2 + 1]? = some (.int .i64 (l.getD i p20).2) := by
  induction l with
  | nil => intro i h; simp at h
  | cons p l ih =>
    intro i h
    have hl : (p2C p).length = 2 := rfl
    have e : p2sC (p :: l) = p2C p ++ p2sC l := rfl
    cases i with
    | zero => exact ⟨rfl, rfl⟩
    | succ i =>
      obtain ⟨h1, h2⟩ := ih i (by simpa using h)
      rw [e]
      refine ⟨?_, ?_⟩
      · rw [List.getElem?_append_right (by omega), show (i + 1) * 2 - (p2C p).length = i * 2 by omega]; exact h1
      · rw [List.getElem?_append_right (by omega), show (i + 1) * 2 + 1 - (p2C p).length = i * 2 + 1 by omega]; exact h2
theorem p2sC_append (l m : List P2) : p2sC (l ++ m) = p2sC l ++ p2sC m := by simp [p2sC]
/-- A row of pairs, of the call's own, as it is read. -/
theorem RowG.pairs {w : World} {S : Nat → Prop} {e : TypeId} {v : Value} {l : List P2} (h : RowG w S e 2 v l.length (p2sC l)) : ∃ a cap, v = .slice a l.length cap ∧ l.length ≤ cap ∧ cap ≤ maxLen ∧ InP w S a l := by
  obtain ⟨a, cap, rfl, h1, h2, _, h3⟩ := h.form
  refine ⟨a, cap, rfl, h1, h2, fun hl => ?_⟩
  obtain ⟨b, hb, rfl, hc⟩ := h3 hl
  refine ⟨b, 0, hb, rfl, fun i hi => ?_⟩
  obtain ⟨e1, e2⟩ := p2sC_get l i hi
  rw [Nat.zero_add]
  exact ⟨(hc (i * 2) (by omega)).1.trans e1, (hc (i * 2 + 1) (by omega)).1.trans e2⟩

theorem getD_of_lt (l : List P2) (i : Nat) (h : i < l.length) : l.getD i p20 = l[i] := by
  rw [List.getD_eq_getElem?_getD, List.getElem?_eq_getElem h]
  rfl
def hasP (l : List P2) (k : Int) : Bool := l.any fun x => x.1 == k
theorem hasP_no {l : List P2} {k : Int} (h : ∀ j, j < l.length → ((l.getD j p20).1 == k) = false) : hasP l k = false := by
  unfold hasP
  rw [List.any_eq_false]
  intro x hx
  obtain ⟨i, hi, rfl⟩ := List.getElem_of_mem hx
  have := h i hi
  rw [getD_of_lt l i hi] at this
  simpa using this
theorem hasP_yes {l : List P2} {k : Int} (j : Nat) (hj : j < l.length) (h : ((l.getD j p20).1 == k) = true) : hasP l k = true := by
  unfold hasP
  rw [List.any_eq_true]
  rw [getD_of_lt l j hj] at h
  exact ⟨_, List.getElem_mem hj, h⟩
set_option maxRecDepth 20000 in
set_option maxHeartbeats 800000 in
theorem refHas_c (S : Nat → Prop) (a : Option Addr) (cap : Nat) (l : List P2) (k : Int) (w : World) (hl : l.length ≤ 100000) (hr : InP w S a l) :
    Calls Try.prog 21 #[.slice a l.length cap, .int .i64 k] w fun e w' => e = .returned (.bool (hasP l k)) ∧ w = w' := by
  have HC := Lib.hid hr
  have HY := Lib.hid (fun j (hj : j < l.length) h => hasP_yes (l := l) (k := k) j hj h)
  have HN := Lib.hid (fun h => hasP_no (l := l) (k := k) h)
  clear hr
  unfold InP at HC
  generalize hasP l k = R at *
  generalize l.length = n at *
  go_enter Try.func21, Try.ntmps21
  go_wp2_with fail
  go_loopw [5] (fun i wr => ∃ j : Nat, i = .int .i64 j ∧ j ≤ n ∧ w = wr ∧ ∀ t, t < j → ((l.getD t p20).1 == k) = false) (fun i _ => n - (intOf i).toNat)
  case atStart => exact ⟨0, rfl, Nat.zero_le _, rfl, fun t h => absurd h (Nat.not_lt_zero t)⟩
  case round =>
    obtain ⟨j, rfl, hj, rfl, hall⟩ := hrel
    have HA := Lib.hid hall
    clear hall
    by_cases h1 : j < n
    · have d1 : decide ((j : Int) < (n : Int)) = true := by rw [decide_eq_true_eq]; omega
      obtain ⟨g, o, _, rfl, hx⟩ := HC.out (by omega)
      obtain ⟨q0, _⟩ := hx j h1
      cases hb : (l.getD j p20).1 == k with
      | true =>
        have HR := Lib.hid (HY.out j h1 hb)
        generalize (l.getD j p20).1 = x at *
        clear hx
        go_wp2_with fail
        go_ret
        exact ⟨by rw [HR.out]; rfl, rfl⟩
      | false =>
        have HA2 : Hid (∀ t, t < j + 1 → ((l.getD t p20).1 == k) = false) := Lib.hid fun t ht => by
          rcases Nat.lt_or_ge t j with h | h
          · exact HA.out t h
          · obtain rfl : t = j := by omega
            exact hb
        generalize (l.getD j p20).1 = x at *
        clear hx
        go_wp2_with fail
        go_roundw
        case rel => exact ⟨j + 1, by simp, by omega, by simp, HA2.out⟩
        case measure => simp [intOf]; omega
    · have hjn : j = n := by omega
      subst hjn
      have d1 : decide ((j : Int) < (j : Int)) = false := by simp
      have HR := Lib.hid (HN.out HA.out)
      go_wp2_with fail
      go_ret
      exact ⟨by rw [HR.out]; rfl, rfl⟩
/-- The first that is not below k; the length, if there is none. -/
def ceilP (l : List P2) (k : Int) : Nat := l.findIdx fun x => decide (k ≤ x.1)
theorem ceilP_yes {l : List P2} {k : Int} (j : Nat) (hj : j < l.length) (hb : ∀ t, t < j → decide (k ≤ (l.getD t p20).1) = false) (h : decide (k ≤ (l.getD j p20).1) = true) : ceilP l k = j := by
  unfold ceilP
  rw [List.findIdx_eq hj]
  refine ⟨by rw [getD_of_lt l j hj] at h; exact h, fun t ht => ?_⟩
  have := hb t ht
  rw [getD_of_lt l t (by omega)] at this
  exact this
theorem ceilP_no {l : List P2} {k : Int} (hb : ∀ t, t < l.length → decide (k ≤ (l.getD t p20).1) = false) : ceilP l k = l.length := by
  unfold ceilP
  rw [List.findIdx_eq_length]
  intro x hx
  obtain ⟨i, hi, rfl⟩ := List.getElem_of_mem hx
  have := hb i hi
  rw [getD_of_lt l i hi] at this
  exact this
set_option maxRecDepth 20000 in
set_option maxHeartbeats 800000 in
theorem refCeil_c (S : Nat → Prop) (a : Option Addr) (cap : Nat) (l : List P2) (k : Int) (w : World) (hl : l.length ≤ 100000) (hr : InP w S a l) :
    Calls Try.prog 20 #[.slice a l.length cap, .int .i64 k] w fun e w' => e = .returned (.int .i64 (ceilP l k : Int)) ∧ w = w' := by
  have HC := Lib.hid hr
  have HY := Lib.hid (fun j (hj : j < l.length) hb h => ceilP_yes (l := l) (k := k) j hj hb h)
  have HN := Lib.hid (fun h => ceilP_no (l := l) (k := k) h)
  clear hr
  unfold InP at HC
  generalize ceilP l k = R at *
  generalize l.length = n at *
  go_enter Try.func20, Try.ntmps20
  go_wp2_with fail
  go_loopw [5] (fun i wr => ∃ j : Nat, i = .int .i64 j ∧ j ≤ n ∧ w = wr ∧ ∀ t, t < j → decide (k ≤ (l.getD t p20).1) = false) (fun i _ => n - (intOf i).toNat)
  case atStart => exact ⟨0, rfl, Nat.zero_le _, rfl, fun t h => absurd h (Nat.not_lt_zero t)⟩
  case round =>
    obtain ⟨j, rfl, hj, rfl, hall⟩ := hrel
    have HA := Lib.hid hall
    clear hall
    by_cases h1 : j < n
    · have d1 : decide ((j : Int) < (n : Int)) = true := by rw [decide_eq_true_eq]; omega
      obtain ⟨g, o, _, rfl, hx⟩ := HC.out (by omega)
      obtain ⟨q0, _⟩ := hx j h1
      cases hb : decide (k ≤ (l.getD j p20).1) with
      | true =>
        have HR := Lib.hid (HY.out j h1 HA.out hb)
        generalize (l.getD j p20).1 = x at *
        clear hx
        go_wp2_with fail
        go_ret
        exact ⟨by rw [HR.out]; rfl, rfl⟩
      | false =>
        have HA2 : Hid (∀ t, t < j + 1 → decide (k ≤ (l.getD t p20).1) = false) := Lib.hid fun t ht => by
          rcases Nat.lt_or_ge t j with h | h
          · exact HA.out t h
          · obtain rfl : t = j := by omega
            exact hb
        generalize (l.getD j p20).1 = x at *
        clear hx
        go_wp2_with fail
        go_roundw
        case rel => exact ⟨j + 1, by simp, by omega, by simp, HA2.out⟩
        case measure => simp [intOf]; omega
    · have hjn : j = n := by omega
      subst hjn
      have d1 : decide ((j : Int) < (j : Int)) = false := by simp
      have HR := Lib.hid (HN.out HA.out)
      go_wp2_with fail
      go_ret
      exact ⟨by rw [HR.out]; rfl, rfl⟩
/-- Is it a run? -/
def runP (l : List P2) : Bool := decide (l.Pairwise fun x y => x.1 < y.1)
theorem runP_no {l : List P2} (j : Nat) (h0 : 0 < j) (hj : j < l.length) (h : decide ((l.getD j p20).1 ≤ (l.getD (j - 1) p20).1) = true) : runP l = false := by
  unfold runP
  rw [decide_eq_false_iff_not, List.pairwise_iff_getElem]
  intro hp
  have := hp (j - 1) j (by omega) hj (by omega)
  rw [getD_of_lt l j hj, getD_of_lt l (j - 1) (by omega), decide_eq_true_eq] at h
  omega
theorem runP_yes {l : List P2} (h : ∀ t, 0 < t → t < l.length → decide ((l.getD t p20).1 ≤ (l.getD (t - 1) p20).1) = false) : runP l = true := by
  unfold runP
  rw [decide_eq_true_eq, List.pairwise_iff_getElem]
  have key : ∀ d i (hi : i < l.length) (hj : i + d + 1 < l.length), (l[i]).1 < (l[i + d + 1]).1 := by
    intro d
    induction d with
    | zero =>
      intro i hi hj
      have := h (i + 1) (by omega) (by omega)
      rw [show i + 1 - 1 = i by omega, getD_of_lt l (i + 1) (by omega), getD_of_lt l i hi, decide_eq_false_iff_not] at this
      show (l[i]).1 < (l[i + 1]).1
      omega
    | succ d ih =>
      intro i hi hj
      have h1 := ih i hi (by omega)
      have := h (i + d + 2) (by omega) (by omega)
      rw [show i + d + 2 - 1 = i + d + 1 by omega, getD_of_lt l (i + d + 2) (by omega), getD_of_lt l (i + d + 1) (by omega), decide_eq_false_iff_not] at this
      show (l[i]).1 < (l[i + d + 2]).1
      omega
  intro i j hi hj hij
  obtain ⟨d, rfl⟩ : ∃ d, j = i + d + 1 := ⟨j - i - 1, by omega⟩
  exact key d i hi hj
set_option maxRecDepth 20000 in
set_option maxHeartbeats 800000 in
theorem refRun_c (S : Nat → Prop) (a : Option Addr) (cap : Nat) (l : List P2) (w : World) (hl : l.length ≤ 100000) (hr : InP w S a l) :
    Calls Try.prog 14 #[.slice a l.length cap] w fun e w' => e = .returned (.bool (runP l)) ∧ Fr No w w' := by
  have HC := Lib.hid hr
  have HY := Lib.hid (fun j h0 (hj : j < l.length) h => runP_no (l := l) j h0 hj h)
  have HN := Lib.hid (fun h => runP_yes (l := l) h)
  clear hr
  unfold InP at HC
  generalize runP l = R at *
  generalize l.length = n at *
  go_enter Try.func14, Try.ntmps14
  go_wp2_with fail
  go_loopw [3] (fun i wr => ∃ j : Nat, i = .int .i64 j ∧ 1 ≤ j ∧ j ≤ n + 1 ∧ Fr No w wr ∧ ∀ t, 0 < t → t < j → decide ((l.getD t p20).1 ≤ (l.getD (t - 1) p20).1) = false) (fun i _ => n + 1 - (intOf i).toNat)
  case atStart => exact ⟨1, rfl, by omega, by omega, Fr.refl _ _, fun t h h2 => absurd h2 (by omega)⟩
  case round =>
    obtain ⟨j, rfl, hj0, hj, hfr, hall⟩ := hrel
    have HA := Lib.hid hall
    have HF := Lib.hid hfr
    clear hall hfr
    by_cases h1 : j < n
    · have d1 : decide ((j : Int) < (n : Int)) = true := by rw [decide_eq_true_eq]; omega
      obtain ⟨g, o, _, rfl, hx⟩ := HC.out (by omega)
      obtain ⟨i, rfl⟩ : ∃ i, j = i + 1 := ⟨j - 1, by omega⟩
      have q0 := HF.out.cell (hx (i + 1) h1).1 (fun h => h)
      have q1 := HF.out.cell (hx i (by omega)).1 (fun h => h)
      clear hx
      have e1 : ((i + 1 : Nat) : Int) = (i : Int) + 1 := by omega
      cases hb : decide ((l.getD (i + 1) p20).1 ≤ (l.getD i p20).1) with
      | true =>
        have HR := Lib.hid (HY.out (i + 1) (by omega) h1 hb)
        generalize (l.getD (i + 1) p20).1 = x at *
        generalize (l.getD i p20).1 = y at *
        go_wp2_with fail
        go_region
        go_wp2_with fail
        go_ret
        exact ⟨by rw [HR.out]; rfl, HF.out.drew⟩
      | false =>
        have HA2 : Hid (∀ t, 0 < t → t < i + 2 → decide ((l.getD t p20).1 ≤ (l.getD (t - 1) p20).1) = false) := Lib.hid fun t h0 ht => by
          rcases Nat.lt_or_ge t (i + 1) with h | h
          · exact HA.out t h0 h
          · obtain rfl : t = i + 1 := by omega
            exact hb
        generalize (l.getD (i + 1) p20).1 = x at *
        generalize (l.getD i p20).1 = y at *
        go_wp2_with fail
        go_region
        go_wp2_with fail
        go_roundw
        case rel => exact ⟨i + 2, by simp; omega, by omega, by omega, HF.out.drew, HA2.out⟩
        case measure => simp [intOf]; omega
    · have d1 : decide ((j : Int) < (n : Int)) = false := by rw [decide_eq_false_iff_not]; omega
      have HR := Lib.hid (HN.out (fun t h0 ht => HA.out t h0 (by omega)))
      go_wp2_with fail
      go_ret
      exact ⟨by rw [HR.out]; rfl, HF.out⟩
end Go.Proofs.Ytkcgdmhggndhfaa
