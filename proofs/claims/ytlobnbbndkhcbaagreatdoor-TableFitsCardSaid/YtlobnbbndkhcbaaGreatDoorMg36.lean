/-
  Texts of layer 13 and of what it stands on, one behind the other.
-/
import Derived.Test.YtlobnbbndkhcbaaGreatDoorMg35

/- Layer 13, the program's own: plain mathematics: what layData lays, in one word; the index is in order. -/
namespace Go.Proofs.YtlobnbbndkhcbaaGreatDoor
set_option linter.unusedVariables false
set_option linter.unusedSimpArgs false
open Go.RowKit

theorem cmpB_lt_tr {a b c : List UInt8} (h1 : cmpB a b < 0) (h2 : cmpB b c < 0) : cmpB a c < 0 := by
  obtain ⟨h3, h4⟩ := cmpB_trans a b c (by omega) (by omega)
  rcases Int.lt_or_eq_of_le h3 with h | h
  · exact h
  · have := (h4 h).1
    omega
theorem ordP_lt {l : List Pr} (h : ordP l) : ∀ (d i : Nat), i + (d + 1) < l.length → cmpP l i (i + (d + 1)) < 0
  | 0, i, hi => h (i + 1) (by omega) hi
  | d + 1, i, hi => cmpB_lt_tr (ordP_lt h d i (by omega)) (h (i + (d + 1) + 1) (by omega) hi)
theorem ordP_lt' {l : List Pr} (h : ordP l) {i j : Nat} (hij : i < j) (hj : j < l.length) : cmpP l i j < 0 := by
  have := ordP_lt h (j - i - 1) i (by omega)
  rwa [show i + (j - i - 1 + 1) = j by omega] at this
theorem ordP_cons {x y : Pr} {l : List Pr} (h1 : cmpB (bs x.key) (bs y.key) < 0) (h2 : ordP (y :: l)) : ordP (x :: y :: l) := fun i hi hl => by
  rcases i with _ | _ | i
  · omega
  · exact h1
  · exact h2 (i + 1) (by omega) (by simpa using hl)
theorem ordP_one (x : Pr) : ordP [x] := fun i h1 h2 => by simp at h2; omega
theorem ordP_nil : ordP [] := fun i h1 h2 => by simp at h2
/-- The index' pairs. -/
def idxs (e : Nat) (L : List Pr) : Nat → List (Nat × Nat) → List Pr
  | _, [] => []
  | d, c :: cs => idxP (L.getD (c.2 - 1) pr0).key d (fblk e (subP L c)).length :: idxs e L (d + (fblk e (subP L c)).length) cs
def dataB (e : Nat) (L : List Pr) (cs : List (Nat × Nat)) : List UInt8 := cs.flatMap fun c => fblk e (subP L c)
theorem lay_is (e : Nat) (L : List Pr) (cs : List (Nat × Nat)) : layG e L cs = (dataB e L cs, idxs e L 0 cs) := by
  have : ∀ (cs : List (Nat × Nat)) (st : List UInt8 × List Pr), cs.foldl (layS e L) st = (st.1 ++ dataB e L cs, st.2 ++ idxs e L st.1.length cs) := by
    intro cs
    induction cs with
    | nil => intro st; simp [dataB, idxs]
    | cons c cs ih =>
      intro st
      rw [List.foldl_cons, ih]
      unfold layS dataB
      rw [List.flatMap_cons]
      simp only [idxs, List.append_assoc, List.length_append, List.singleton_append, List.cons_append, List.nil_append]
  unfold layG
  rw [this]
  simp
theorem idxs_len (e : Nat) (L : List Pr) : ∀ (cs : List (Nat × Nat)) (d : Nat), (idxs e L d cs).length = cs.length
  | [], _ => rfl
  | c :: cs, d => by
    show (idxs e L _ cs).length + 1 = _
    rw [idxs_len e L cs]
    rfl
theorem idxs_ord (e : Nat) {L : List Pr} (hL : ordP L) : ∀ (cs : List (Nat × Nat)) (d o k : Nat), Chain o cs k → k ≤ L.length → ordP (idxs e L d cs)
  | [], _, _, _, _, _ => ordP_nil
  | [c], d, o, k, _, _ => ordP_one _
  | c :: c' :: cs, d, o, k, ⟨h1, h2, h3⟩, hk => by
    have h4 := chain_le _ _ _ h3
    obtain ⟨g1, g2, g3⟩ := h3
    have h5 := chain_le _ _ _ g3
    refine ordP_cons ?_ (idxs_ord e hL (c' :: cs) _ c.2 k ⟨g1, g2, g3⟩ hk)
    show cmpB (bs (L.getD (c.2 - 1) pr0).key) (bs (L.getD (c'.2 - 1) pr0).key) < 0
    exact ordP_lt' hL (show c.2 - 1 < c'.2 - 1 by omega) (by omega)
theorem idxs_low (e : Nat) {L : List Pr} {m : Nat} (hm : 18 ≤ m) (hl : Low m L) (hb : ∀ c, (fblk e (subP L c)).length ≤ 1800000000) : ∀ (cs : List (Nat × Nat)) (d o k : Nat), Chain o cs k → k ≤ L.length → d + cs.length * 1800000000 ≤ 100000000000000 → Low m (idxs e L d cs)
  | [], _, _, _, _, _, _ => fun i hi => by simp [idxs] at hi
  | c :: cs, d, o, k, ⟨h1, h2, h3⟩, hk, hd => fun i hi => by
    have h4 := chain_le _ _ _ h3
    have h5 := hb c
    rw [List.length_cons] at hd
    cases i with
    | zero =>
      refine ⟨(hl (c.2 - 1) (by omega)).1, ?_⟩
      show (strOf (enc d ++ enc (fblk e (subP L c)).length)).size ≤ m
      rw [size_strT, List.length_append]
      have q1 := enc_len9 (show d < 9223372036854775808 by omega)
      have q2 := enc_len9 (show (fblk e (subP L c)).length < 9223372036854775808 by omega)
      omega
    | succ i => exact idxs_low e hm hl hb cs _ c.2 k h3 hk (by omega) i (by simpa [idxs] using hi)
/-- Any part of the pairs is as low. -/
theorem subP_low' {L : List Pr} {m : Nat} (h : Low m L) (c : Nat × Nat) : Low m (subP L c) := fun i hi => by
  unfold subP at hi ⊢
  rw [List.length_take, List.length_drop] at hi
  have e : ((L.drop c.1).take (c.2 - c.1)).getD i pr0 = L.getD (c.1 + i) pr0 := by
    rw [List.getD_eq_getElem?_getD, List.getD_eq_getElem?_getD, List.getElem?_take_of_lt (by omega), List.getElem?_drop]
  rw [e]
  exact h _ (by omega)
theorem subP_len' (L : List Pr) (c : Nat × Nat) : (subP L c).length ≤ L.length := by
  unfold subP
  rw [List.length_take, List.length_drop]
  omega
theorem fblk_sub {e : Nat} {L : List Pr} (h1 : L.length ≤ 17000) (h2 : Low 50000 L) (c : Nat × Nat) : (fblk e (subP L c)).length ≤ 1800000000 :=
  fblk_len (Nat.le_trans (subP_len' L c) h1) (subP_low' h2 c)
/-- A row is one as Build's callers read it. -/
theorem Row.toZ {w : World} {S : Nat → Prop} {v : Value} {l : List UInt8} (h : Row w S v l) (h0 : 0 < l.length) : RowZ w S v l := by
  obtain ⟨⟨h1, h2⟩, h3⟩ := h
  rcases h2 with ⟨_, h2⟩ | ⟨g, cap, cur, rfl, hb, hg, q1, q2, q3, q4⟩
  · omega
  · exact ⟨g, cap, cur, _, rfl, h3 g rfl, hg, fun i hi h => by simp at h, q1, q2, by rw [q3, Nat.mul_one], by rwa [Nat.mul_one] at q4⟩
end Go.Proofs.YtlobnbbndkhcbaaGreatDoor
