/-
  Layer 11, mathematics: entries in order; what a user's key has at a number.
-/
import Derived.Test.YtggjkpgkmohmdaaMeA
namespace Go.Proofs.Ytggjkpgkmohmdaa
set_option linter.unusedVariables false

theorem cmpE_neg (x y : Ent) : cmpE y x = - cmpE x y := cmpK_neg _ _ _ _ _ _
theorem cmpE_range (x y : Ent) : cmpE x y = -1 ∨ cmpE x y = 0 ∨ cmpE x y = 1 := cmpK_range _ _ _ _ _ _
theorem cmpE_zero (x y : Ent) : cmpE x y = 0 ↔ (x.u = y.u ∧ x.q = y.q ∧ x.k = y.k) := by
  unfold cmpE
  rw [cmpK_zero]
  constructor
  · rintro ⟨h1, h2, h3⟩
    refine ⟨?_, h2, h3⟩
    obtain ⟨⟨⟨a⟩⟩, _, _, _⟩ := x
    obtain ⟨⟨⟨b⟩⟩, _, _, _⟩ := y
    have : a = b := h1
    rw [this]
  · rintro ⟨h1, h2, h3⟩
    exact ⟨by rw [h1], h2, h3⟩
theorem cmpE_trans {x y z : Ent} (h1 : cmpE x y < 0) (h2 : cmpE y z < 0) : cmpE x z < 0 := by
  have h := cmpK_trans x.u.data.toList x.q x.k y.u.data.toList y.q y.k z.u.data.toList z.q z.k
    (show cmpK x.u.data.toList x.q x.k y.u.data.toList y.q y.k ≤ 0 from Int.le_of_lt h1)
    (show cmpK y.u.data.toList y.q y.k z.u.data.toList z.q z.k ≤ 0 from Int.le_of_lt h2)
  have h3 : cmpE x z ≤ 0 := h
  rcases Int.lt_or_eq_of_le h3 with h4 | h4
  · exact h4
  · exfalso
    obtain ⟨e1, e2, e3⟩ := (cmpE_zero x z).1 h4
    have e : cmpE y z = cmpE y x := by unfold cmpE; rw [e1, e2, e3]
    rw [e, cmpE_neg x y] at h2
    omega
/-- Entries in order: strictly rising. -/
def Srt (l : List Ent) : Prop := l.Pairwise fun a b => cmpE a b < 0
theorem putL_srt {x : Ent} : ∀ {l : List Ent}, Srt l → (∀ e ∈ l, cmpE x e ≠ 0) → Srt (putL x l)
  | [], _, _ => by unfold putL Srt; simp
  | e :: l, h, hne => by
    have h' := List.pairwise_cons.1 h
    unfold putL
    by_cases hc : cmpE x e < 0
    · rw [if_pos hc]
      refine List.pairwise_cons.2 ⟨fun y hy => ?_, h⟩
      rcases List.mem_cons.1 hy with rfl | hy
      · exact hc
      · exact cmpE_trans hc (h'.1 y hy)
    · rw [if_neg hc]
      refine List.pairwise_cons.2 ⟨fun y hy => ?_, putL_srt h'.2 fun y hy => hne y (List.mem_cons_of_mem _ hy)⟩
      rcases putL_mem.1 hy with rfl | hy
      · have h0 := hne e (List.mem_cons_self ..)
        have := cmpE_neg y e
        rcases cmpE_range y e with h | h | h <;> omega
      · exact h'.1 y hy
/-- Is an entry one of the user's that is at most so new? -/
def sees (u : ByteArray) (at_ : Int) (e : Ent) : Bool := decide (e.u = u) && decide (e.q ≤ at_)
/-- IN ORDER, the first that is seen is what the key has. -/
theorem bestI_srt {l : List Ent} (h : Srt l) (u : ByteArray) (at_ : Int) : ∀ n, n ≤ l.length →
    (bestI l u at_ n = -1 ∧ ∀ i, i < n → sees u at_ (l.getD i ent0) = false) ∨
    ∃ j, j < n ∧ bestI l u at_ n = (j : Int) ∧ sees u at_ (l.getD j ent0) = true ∧ ∀ i, i < j → sees u at_ (l.getD i ent0) = false
  | 0, _ => .inl ⟨rfl, fun i h => absurd h (by omega)⟩
  | n + 1, hn => by
    have e : bestI l u at_ (n + 1) = if takesE l u at_ (bestI l u at_ n) n then (n : Int) else bestI l u at_ n := rfl
    rcases bestI_srt h u at_ n (by omega) with ⟨h1, h2⟩ | ⟨j, hj, h1, h2, h3⟩
    · rw [h1] at e
      have ht : takesE l u at_ (-1) n = sees u at_ (l.getD n ent0) := by
        unfold takesE sees
        simp
      rw [ht] at e
      cases hs : sees u at_ (l.getD n ent0) with
      | true =>
        rw [hs] at e
        exact .inr ⟨n, by omega, e, hs, h2⟩
      | false =>
        rw [hs] at e
        refine .inl ⟨e, fun i hi => ?_⟩
        rcases Nat.lt_or_ge i n with h | h
        · exact h2 i h
        · have : i = n := by omega
          rw [this]
          exact hs
    · rw [h1] at e
      have hlt : cmpE (l.getD j ent0) (l.getD n ent0) < 0 := by
        have := List.pairwise_iff_getElem.1 h j n (by omega) (by omega) hj
        rw [getD_ent l j (by omega), getD_ent l n (by omega)]
        exact this
      have ht : takesE l u at_ (j : Int) n = false := by
        have hd : decide (cmpE (l.getD n ent0) (l.getD j ent0) < 0) = false := by
          rw [decide_eq_false_iff_not, cmpE_neg (l.getD j ent0) (l.getD n ent0)]
          omega
        have hz : decide ((j : Int) < 0) = false := by rw [decide_eq_false_iff_not]; omega
        unfold takesE
        rw [Int.toNat_natCast, hz, hd]
        simp
      rw [ht] at e
      exact .inr ⟨j, by omega, e, h2, h3⟩
theorem getE_srt {l : List Ent} (h : Srt l) (u : ByteArray) (at_ : Int) :
    (getE l u at_ = -1 ∧ ∀ e ∈ l, sees u at_ e = false) ∨
    ∃ j, j < l.length ∧ getE l u at_ = (j : Int) ∧ sees u at_ (l.getD j ent0) = true ∧ ∀ e ∈ l, sees u at_ e = true → cmpE (l.getD j ent0) e ≤ 0 := by
  rcases bestI_srt h u at_ l.length (Nat.le_refl _) with ⟨h1, h2⟩ | ⟨j, hj, h1, h2, h3⟩
  · refine .inl ⟨h1, fun e he => ?_⟩
    obtain ⟨i, hi, rfl⟩ := List.mem_iff_getElem.1 he
    rw [← getD_ent l i hi]
    exact h2 i hi
  · refine .inr ⟨j, hj, h1, h2, fun e he hs => ?_⟩
    obtain ⟨i, hi, rfl⟩ := List.mem_iff_getElem.1 he
    rcases Nat.lt_trichotomy i j with h4 | h4 | h4
    · rw [← getD_ent l i hi, h3 i h4] at hs
      cases hs
    · subst h4
      rw [getD_ent l i hi]
      have := (cmpE_zero l[i] l[i]).2 ⟨rfl, rfl, rfl⟩
      omega
    · have := List.pairwise_iff_getElem.1 h j i (by omega) hi h4
      rw [getD_ent l j hj]
      omega
end Go.Proofs.Ytggjkpgkmohmdaa
