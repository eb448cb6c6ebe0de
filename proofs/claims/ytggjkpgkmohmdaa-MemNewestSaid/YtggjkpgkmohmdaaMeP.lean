/-
  Layer 11, mathematics: a table's entries stay in order, one for each number.
-/
import Derived.Test.YtggjkpgkmohmdaaMeM
import Derived.Test.YtggjkpgkmohmdaaMeN
namespace Go.Proofs.Ytggjkpgkmohmdaa
set_option linter.unusedVariables false

theorem putAll_srt : ∀ (l : List Op10) (es : List Ent) (q : Int), Srt es → (∀ x ∈ es, x.q < q) →
    Srt (putAll es q l) ∧ ∀ x ∈ putAll es q l, x.q < q + l.length
  | [], es, q, h, hq => ⟨h, fun x hx => by have := hq x hx; simpa using this⟩
  | y :: l, es, q, h, hq => by
    show Srt (putAll (putL (opEnt q y) es) (q + 1) l) ∧ ∀ x ∈ putAll (putL (opEnt q y) es) (q + 1) l, _
    have h1 : Srt (putL (opEnt q y) es) := putL_srt h fun e he h0 => by
      have e1 : (opEnt q y).q = e.q := ((cmpE_zero _ _).1 h0).2.1
      have e2 : (opEnt q y).q = q := rfl
      have := hq e he
      omega
    obtain ⟨h2, h3⟩ := putAll_srt l _ (q + 1) h1 fun x hx => by
      rcases putL_mem.1 hx with rfl | hx
      · show q < q + 1
        omega
      · have := hq x hx
        omega
    refine ⟨h2, fun x hx => ?_⟩
    have := h3 x hx
    rw [List.length_cons]
    omega
/-- A table in order, whose numbers are at most its last. -/
structure SrtM (m : Mt) : Prop where
  srt : Srt m.es
  le : ∀ x ∈ m.es, x.q ≤ m.last
theorem newMt_srt : SrtM newMt := ⟨List.Pairwise.nil, fun x hx => by cases hx⟩
theorem applyM_srt {m : Mt} {q : Int} {l : List Op10} (h : SrtM m) : SrtM (applyM m q l) := by
  unfold applyM
  by_cases he : applyE m q l = 0
  · rw [if_pos he]
    have hq : m.last < q := by
      unfold applyE at he
      split at he
      · split at he
        · cases he
        · omega
      · cases he
    obtain ⟨h1, h2⟩ := putAll_srt l m.es q h.srt fun x hx => by have := h.le x hx; omega
    refine ⟨h1, fun x hx => ?_⟩
    have := h2 x hx
    show x.q ≤ q + (l.length : Int) - 1
    omega
  · rw [if_neg he]
    exact h
theorem foldl_srt : ∀ (L : List Bt) (m : Mt), SrtM m → SrtM (L.foldl (fun m b => applyM m b.q b.l) m)
  | [], m, h => h
  | b :: L, m, h => foldl_srt L _ (applyM_srt h)
theorem foldM_srt (L : List Bt) : SrtM (foldM L) := foldl_srt L newMt newMt_srt
/-- What a table's entries are, told from the ops: in it before, or put by this batch. -/
theorem putAll_mem : ∀ (l : List Op10) (es : List Ent) (q : Int) (x : Ent),
    x ∈ putAll es q l ↔ (x ∈ es ∨ ∃ i, ∃ h : i < l.length, x = opEnt (q + i) l[i])
  | [], es, q, x => by
    constructor
    · exact .inl
    · rintro (h | ⟨i, h, _⟩)
      · exact h
      · cases h
  | y :: l, es, q, x => by
    show x ∈ putAll (putL (opEnt q y) es) (q + 1) l ↔ _
    rw [putAll_mem l, putL_mem]
    constructor
    · rintro ((rfl | h) | ⟨i, h, rfl⟩)
      · exact .inr ⟨0, by simp, by simp⟩
      · exact .inl h
      · refine .inr ⟨i + 1, by simpa using h, ?_⟩
        have e : q + 1 + (i : Int) = q + ((i + 1 : Nat) : Int) := by omega
        rw [List.getElem_cons_succ, e]
    · rintro (h | ⟨i, h, rfl⟩)
      · exact .inl (.inr h)
      · cases i with
        | zero => exact .inl (.inl (by simp))
        | succ i =>
          refine .inr ⟨i, by simpa using h, ?_⟩
          have e : q + 1 + (i : Int) = q + ((i + 1 : Nat) : Int) := by omega
          rw [List.getElem_cons_succ, e]
/-- The newest that is seen: of one user's entries in order, the first has the greatest number. -/
theorem cmpE_newer {x y : Ent} (hu : x.u = y.u) (h : cmpE x y ≤ 0) : y.q ≤ x.q := by
  unfold cmpE at h
  rw [hu, cmpK_same] at h
  rcases Int.lt_or_le x.q y.q with hc | hc
  · exfalso
    have e : cmpI y.q x.q = 1 := by
      unfold cmpI
      rw [if_neg (by omega), if_pos hc]
    rw [e] at h
    unfold orI at h
    simp at h
  · exact hc
/-- THE NEWEST: what Get's entry is, in a table in order. -/
theorem getE_newest {m : Mt} (h : SrtM m) (u : ByteArray) (at_ : Int) :
    (getE m.es u at_ = -1 ∧ ∀ e ∈ m.es, e.u = u → at_ < e.q) ∨
    ∃ j, ∃ hj : j < m.es.length, getE m.es u at_ = (j : Int) ∧ m.es[j].u = u ∧ m.es[j].q ≤ at_ ∧ ∀ e ∈ m.es, e.u = u → e.q ≤ at_ → e.q ≤ m.es[j].q := by
  rcases getE_srt h.srt u at_ with ⟨h1, h2⟩ | ⟨j, hj, h1, h2, h3⟩
  · refine .inl ⟨h1, fun e he hu => ?_⟩
    have := h2 e he
    unfold sees at this
    rw [hu] at this
    simp at this
    exact this
  · rw [getD_ent _ j hj] at h2 h3
    unfold sees at h2
    simp only [Bool.and_eq_true, decide_eq_true_eq] at h2
    refine .inr ⟨j, hj, h1, h2.1, h2.2, fun e he hu hq => ?_⟩
    refine cmpE_newer (h2.1.trans hu.symm) (h3 e he ?_)
    unfold sees
    simp only [Bool.and_eq_true, decide_eq_true_eq]
    exact ⟨hu, hq⟩
end Go.Proofs.Ytggjkpgkmohmdaa
