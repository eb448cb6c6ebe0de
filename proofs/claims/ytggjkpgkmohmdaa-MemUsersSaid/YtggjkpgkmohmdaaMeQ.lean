/-
  Layer 11, mathematics: the users' keys that have a value.
-/
import Derived.Test.YtggjkpgkmohmdaaMeN
namespace Go.Proofs.Ytggjkpgkmohmdaa
set_option linter.unusedVariables false

theorem usersE_mem (l : List Ent) (at_ : Int) (u : ByteArray) : ∀ n, u ∈ usersE l at_ n ↔
    ∃ j, j < n ∧ getE l (l.getD j ent0).u at_ = (j : Int) ∧ (l.getD j ent0).k = 1 ∧ (l.getD j ent0).u = u
  | 0 => by
    constructor
    · intro h; cases h
    · rintro ⟨j, h, _⟩; omega
  | n + 1 => by
    have ih := usersE_mem l at_ u n
    unfold usersE
    by_cases hc : getE l (l.getD n ent0).u at_ = (n : Int) ∧ (l.getD n ent0).k = 1
    · rw [if_pos hc, List.mem_append, ih]
      constructor
      · rintro (⟨j, h1, h2⟩ | h)
        · exact ⟨j, by omega, h2⟩
        · rw [List.mem_singleton] at h
          exact ⟨n, by omega, hc.1, hc.2, h.symm⟩
      · rintro ⟨j, h1, h2, h3, h4⟩
        rcases Nat.lt_or_ge j n with h | h
        · exact .inl ⟨j, h, h2, h3, h4⟩
        · have e : j = n := by omega
          subst e
          exact .inr (List.mem_singleton.2 h4.symm)
    · rw [if_neg hc, ih]
      constructor
      · rintro ⟨j, h1, h2⟩
        exact ⟨j, by omega, h2⟩
      · rintro ⟨j, h1, h2, h3, h4⟩
        rcases Nat.lt_or_ge j n with h | h
        · exact ⟨j, h, h2, h3, h4⟩
        · have e : j = n := by omega
          subst e
          exact absurd ⟨h2, h3⟩ hc
theorem usersE_le (l : List Ent) (at_ : Int) : ∀ n, (usersE l at_ n).length ≤ n
  | 0 => Nat.le_refl _
  | n + 1 => by
    have ih := usersE_le l at_ n
    unfold usersE
    split
    · rw [List.length_append]
      exact Nat.succ_le_succ ih
    · omega
/-- JUST THOSE of which Get tells a put. -/
theorem usersE_get {l : List Ent} (h : Srt l) (u : ByteArray) (at_ : Int) :
    u ∈ usersE l at_ l.length ↔ ∃ j, j < l.length ∧ getE l u at_ = (j : Int) ∧ (l.getD j ent0).k = 1 := by
  rw [usersE_mem]
  constructor
  · rintro ⟨j, h1, h2, h3, h4⟩
    rw [h4] at h2
    exact ⟨j, h1, h2, h3⟩
  · rintro ⟨j, h1, h2, h3⟩
    rcases getE_srt h u at_ with ⟨g1, _⟩ | ⟨i, g1, g2, g3, _⟩
    · omega
    · have e : i = j := by omega
      subst e
      unfold sees at g3
      simp only [Bool.and_eq_true, decide_eq_true_eq] at g3
      exact ⟨i, h1, by rw [g3.1]; exact h2, h3, g3.1⟩
/-- THEY RISE. -/
theorem usersE_rise {l : List Ent} (h : Srt l) (at_ : Int) : ∀ n, n ≤ l.length → (usersE l at_ n).Pairwise fun a b => cmpB a.data.toList b.data.toList < 0
  | 0, _ => List.Pairwise.nil
  | n + 1, hn => by
    have ih := usersE_rise h at_ n (by omega)
    unfold usersE
    split
    · rename_i hc
      refine List.pairwise_append.2 ⟨ih, List.pairwise_singleton _ _, fun a ha b hb => ?_⟩
      rw [List.mem_singleton] at hb
      subst hb
      obtain ⟨j, h1, h2, h3, rfl⟩ := (usersE_mem l at_ a n).1 ha
      have hlt : cmpE (l.getD j ent0) (l.getD n ent0) < 0 := by
        have := List.pairwise_iff_getElem.1 h j n (by omega) (by omega) h1
        rw [getD_ent l j (by omega), getD_ent l n (by omega)]
        exact this
      have hne : (l.getD j ent0).u.data.toList ≠ (l.getD n ent0).u.data.toList := fun e => by
        have e' : (l.getD j ent0).u = (l.getD n ent0).u := ByteArray.ext (Array.ext' e)
        rw [e', hc.1] at h2
        omega
      unfold cmpE at hlt
      rw [cmpK_other hne] at hlt
      exact hlt
    · exact ih
end Go.Proofs.Ytggjkpgkmohmdaa
