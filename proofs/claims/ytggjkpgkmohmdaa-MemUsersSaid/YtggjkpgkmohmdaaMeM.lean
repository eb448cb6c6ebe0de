/-
  Layer 11, mathematics: what a table has behind batches.
-/
import Derived.Test.YtggjkpgkmohmdaaMeS
namespace Go.Proofs.Ytggjkpgkmohmdaa
set_option linter.unusedVariables false

def foldM (L : List Bt) : Mt := L.foldl (fun m b => applyM m b.q b.l) newMt
theorem foldM_snoc (L : List Bt) (b : Bt) : foldM (L ++ [b]) = applyM (foldM L) b.q b.l := by simp [foldM]
/-- An entry of a right op. -/
def EntGood (x : Ent) : Prop := 1 ≤ x.u.size ∧ x.u.size ≤ 64 ∧ 0 ≤ x.q ∧ x.q ≤ 1099511627776 ∧ 1 ≤ x.k ∧ x.k ≤ 3 ∧ x.val.size ≤ 4096
structure GoodM (m : Mt) (N : Nat) : Prop where
  len : m.es.length ≤ N
  ent : ∀ x ∈ m.es, EntGood x
  last : -1 ≤ m.last ∧ m.last ≤ 1099511627776
theorem EntGood.wf {x : Ent} (h : EntGood x) : EntWf x := by
  obtain ⟨h1, h2, h3, h4, h5, h6, h7⟩ := h
  unfold EntWf maxLen
  refine ⟨by omega, ?_, ?_, by omega⟩
  · simp only [Lit.wf, IntKind.min, IntKind.max, IntKind.signed, IntKind.bits]; simp; omega
  · simp only [Lit.wf, IntKind.min, IntKind.max, IntKind.signed, IntKind.bits]; simp; omega
theorem opEnt_good {q : Int} {x : Op10} (hq : 0 ≤ q) (hq2 : q ≤ 1099511627776) (h : rightO x = true) : EntGood (opEnt q x) := by
  obtain ⟨h1, h2, h3, h4⟩ := rightO_parts h
  exact ⟨h1, h2, hq, hq2, by show 1 ≤ x.k; omega, by show x.k ≤ 3; omega, h3⟩
theorem putAll_good : ∀ (l : List Op10) (es : List Ent) (q : Int), (∀ x ∈ es, EntGood x) → (∀ x ∈ l, rightO x = true) → 0 ≤ q → q + l.length ≤ 1099511627777 → ∀ x ∈ putAll es q l, EntGood x
  | [], es, q, h, _, _, _ => h
  | y :: l, es, q, h, hr, hq, hb => by
    show ∀ x ∈ putAll (putL (opEnt q y) es) (q + 1) l, EntGood x
    rw [List.length_cons] at hb
    refine putAll_good l _ _ (fun x hx => ?_) (fun x hx => hr x (List.mem_cons_of_mem _ hx)) (by omega) (by omega)
    rcases putL_mem.1 hx with rfl | hx
    · exact opEnt_good hq (by omega) (hr y (List.mem_cons_self ..))
    · exact h x hx
theorem applyM_good {m : Mt} {N : Nat} {q : Int} {l : List Op10} (h : GoodM m N) (hl : l.length ≤ 70) : GoodM (applyM m q l) (N + 70) := by
  unfold applyM
  by_cases he : applyE m q l = 0
  · rw [if_pos he]
    have hall : allO q l = true := by
      unfold applyE at he
      cases hc : allO q l
      · rw [hc] at he; cases he
      · rfl
    obtain ⟨p1, p2, p3, p4, p5⟩ := allO_parts hall
    exact ⟨by simp only [putAll_len]; have := h.len; omega, putAll_good l m.es q h.ent p5 p3 (by omega), by simp only; omega⟩
  · rw [if_neg he]
    exact ⟨by have := h.len; omega, h.ent, h.last⟩
theorem foldM_good : ∀ (L : List Bt), (∀ b ∈ L, b.l.length ≤ 70) → GoodM (foldM L) (L.length * 70) := by
  intro L
  induction hn : L.length generalizing L with
  | zero =>
    intro _
    rw [List.eq_nil_of_length_eq_zero hn]
    exact ⟨by simp [foldM, newMt], fun x hx => by simp [foldM, newMt] at hx, by simp [foldM, newMt]⟩
  | succ n ih =>
    intro h
    obtain ⟨L', b, rfl⟩ : ∃ L' b, L = L' ++ [b] := ⟨L.dropLast, L.getLast (by intro h; rw [h] at hn; cases hn), (List.dropLast_concat_getLast _).symm⟩
    have hy : L'.length = n := by simpa using hn
    rw [foldM_snoc]
    have := applyM_good (q := b.q) (ih L' hy fun b hb => h b (by simp [hb])) (h b (by simp))
    have e : (n + 1) * 70 = n * 70 + 70 := by omega
    rw [e]
    exact this
end Go.Proofs.Ytggjkpgkmohmdaa
