/-
  Layer 11, mathematics: texts put one after another, and what was put last.
-/
import Derived.Test.YtggjkpgkmohmdaaMeR
namespace Go.Proofs.Ytggjkpgkmohmdaa
set_option linter.unusedVariables false

def opN (ks vs : Nat → ByteArray) (i : Nat) : Op10 := ⟨if (vs i).size = 0 then 2 else 1, ks i, vs i⟩
def tabN (ks vs : Nat → ByteArray) : Nat → Mt
  | 0 => newMt
  | n + 1 => applyM (tabN ks vs n) (2 * (n : Int) + 1) [opN ks vs n]
/-- Which was put last of a key, of the first n. -/
def wantN (ks : Nat → ByteArray) (k : ByteArray) (at_ : Int) : Nat → Int
  | 0 => -1
  | n + 1 => if ks n = k ∧ 2 * (n : Int) + 1 ≤ at_ then (n : Int) else wantN ks k at_ n
theorem wantN_spec (ks : Nat → ByteArray) (k : ByteArray) (at_ : Int) : ∀ n,
    (wantN ks k at_ n = -1 ∧ ∀ i, i < n → ¬ (ks i = k ∧ 2 * (i : Int) + 1 ≤ at_)) ∨
    ∃ j, j < n ∧ wantN ks k at_ n = (j : Int) ∧ ks j = k ∧ 2 * (j : Int) + 1 ≤ at_ ∧ ∀ i, i < n → ks i = k ∧ 2 * (i : Int) + 1 ≤ at_ → i ≤ j
  | 0 => .inl ⟨rfl, fun i h => absurd h (by omega)⟩
  | n + 1 => by
    unfold wantN
    by_cases hc : ks n = k ∧ 2 * (n : Int) + 1 ≤ at_
    · rw [if_pos hc]
      exact .inr ⟨n, by omega, rfl, hc.1, hc.2, fun i hi _ => by omega⟩
    · rw [if_neg hc]
      rcases wantN_spec ks k at_ n with ⟨h1, h2⟩ | ⟨j, h1, h2, h3, h4, h5⟩
      · refine .inl ⟨h1, fun i hi => ?_⟩
        rcases Nat.lt_or_ge i n with h | h
        · exact h2 i h
        · have e : i = n := by omega
          subst e
          exact hc
      · refine .inr ⟨j, by omega, h2, h3, h4, fun i hi hs => ?_⟩
        rcases Nat.lt_or_ge i n with h | h
        · exact h5 i h hs
        · have e : i = n := by omega
          subst e
          exact absurd hs hc
theorem opN_right {ks vs : Nat → ByteArray} {i : Nat} (h1 : 1 ≤ (ks i).size) (h2 : (ks i).size ≤ 64) (h3 : (vs i).size ≤ 4096) : rightO (opN ks vs i) = true := by
  unfold rightO opN
  by_cases h : (vs i).size = 0
  · simp [h, h1, h2]
  · simp [h, h1, h2, h3]
/-- What has been put. -/
structure TabN (ks vs : Nat → ByteArray) (n : Nat) : Prop where
  last : (tabN ks vs n).last ≤ 2 * (n : Int) - 1
  srt : SrtM (tabN ks vs n)
  mem : ∀ x, x ∈ (tabN ks vs n).es ↔ ∃ i, i < n ∧ x = opEnt (2 * (i : Int) + 1) (opN ks vs i)
  len : (tabN ks vs n).es.length = n
theorem TabN.ok {ks vs : Nat → ByteArray} {n : Nat} (h : TabN ks vs n) (hn : n ≤ 1000) (h1 : 1 ≤ (ks n).size) (h2 : (ks n).size ≤ 64) (h3 : (vs n).size ≤ 4096) :
    applyE (tabN ks vs n) (2 * (n : Int) + 1) [opN ks vs n] = 0 := by
  have hr := opN_right (i := n) h1 h2 h3
  have hl := h.last
  unfold applyE
  rw [if_pos, if_neg (by omega)]
  unfold allO
  simp only [Bool.and_eq_true, decide_eq_true_eq, List.all_eq_true, List.length_singleton, List.mem_singleton]
  refine ⟨⟨⟨⟨by omega, by omega⟩, by omega⟩, by omega⟩, ?_⟩
  rintro x rfl
  exact hr
theorem tabN_zero (ks vs : Nat → ByteArray) : TabN ks vs 0 :=
  ⟨by show (-1 : Int) ≤ 2 * ((0 : Nat) : Int) - 1; omega, newMt_srt, fun x => ⟨fun h => (by cases h), fun ⟨i, h, _⟩ => absurd h (by omega)⟩, rfl⟩
theorem TabN.step {ks vs : Nat → ByteArray} {n : Nat} (h : TabN ks vs n) (hn : n ≤ 1000) (h1 : 1 ≤ (ks n).size) (h2 : (ks n).size ≤ 64) (h3 : (vs n).size ≤ 4096) : TabN ks vs (n + 1) := by
  have e0 := h.ok hn h1 h2 h3
  have e : tabN ks vs (n + 1) = applyM (tabN ks vs n) (2 * (n : Int) + 1) [opN ks vs n] := rfl
  have e' : tabN ks vs (n + 1) = ⟨putL (opEnt (2 * (n : Int) + 1) (opN ks vs n)) (tabN ks vs n).es, 2 * (n : Int) + 1⟩ := by
    rw [e]
    unfold applyM
    rw [if_pos e0]
    have el : (2 * (n : Int) + 1) + (([opN ks vs n].length : Nat) : Int) - 1 = 2 * (n : Int) + 1 := by
      rw [List.length_singleton]
      omega
    rw [el]
    rfl
  refine ⟨?_, ?_, fun x => ?_, ?_⟩
  · rw [e']
    show 2 * (n : Int) + 1 ≤ 2 * ((n + 1 : Nat) : Int) - 1
    omega
  · rw [e]
    exact applyM_srt h.srt
  · rw [e']
    show x ∈ putL _ _ ↔ _
    rw [putL_mem, h.mem x]
    constructor
    · rintro (rfl | ⟨i, hi, rfl⟩)
      · exact ⟨n, by omega, rfl⟩
      · exact ⟨i, by omega, rfl⟩
    · rintro ⟨i, hi, rfl⟩
      rcases Nat.lt_or_ge i n with hh | hh
      · exact .inr ⟨i, hh, rfl⟩
      · have ei : i = n := by omega
        subst ei
        exact .inl rfl
  · rw [e']
    show (putL _ _).length = _
    rw [putL_len, h.len]
/-- WHAT WAS PUT LAST is what is told. -/
theorem TabN.top {ks vs : Nat → ByteArray} {n : Nat} (h : TabN ks vs n) (k : ByteArray) (at_ : Int) :
    topE (tabN ks vs n).es k at_ = if wantN ks k at_ n < 0 then none else some (opEnt (2 * wantN ks k at_ n + 1) (opN ks vs (wantN ks k at_ n).toNat)) := by
  have hsee : ∀ i : Nat, sees k at_ (opEnt (2 * (i : Int) + 1) (opN ks vs i)) = true ↔ (ks i = k ∧ 2 * (i : Int) + 1 ≤ at_) := fun i => by
    unfold sees opEnt opN
    simp
  rcases topE_cases h.srt.srt k at_ with ⟨t1, t2⟩ | ⟨x, t1, t2, t3, t4⟩
  · rcases wantN_spec ks k at_ n with ⟨w1, w2⟩ | ⟨j, w1, w2, w3, w4, w5⟩
    · rw [t1, w1, if_pos (by omega)]
    · have := t2 _ ((h.mem _).2 ⟨j, w1, rfl⟩)
      rw [(hsee j).2 ⟨w3, w4⟩] at this
      cases this
  · obtain ⟨i, hi, rfl⟩ := (h.mem x).1 t1
    have hs := (hsee i).1 t3
    rcases wantN_spec ks k at_ n with ⟨w1, w2⟩ | ⟨j, w1, w2, w3, w4, w5⟩
    · exact absurd hs (w2 i hi)
    · have l1 := w5 i hi hs
      have l2 := cmpE_newer (hs.1.trans w3.symm) (t4 _ ((h.mem _).2 ⟨j, w1, rfl⟩) ((hsee j).2 ⟨w3, w4⟩))
      have l3 : 2 * (j : Int) + 1 ≤ 2 * (i : Int) + 1 := l2
      have e : i = j := by omega
      subst e
      rw [t2, w2, if_neg (by omega), Int.toNat_natCast]
end Go.Proofs.Ytggjkpgkmohmdaa
