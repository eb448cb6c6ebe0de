/-
  Layer 11, mathematics: two tables, the newer first.
-/
import Derived.Test.YtggjkpgkmohmdaaMeP
namespace Go.Proofs.Ytggjkpgkmohmdaa
set_option linter.unusedVariables false

/-- The entry that Get tells, or none. -/
def topE (l : List Ent) (u : ByteArray) (at_ : Int) : Option Ent := if getE l u at_ < 0 then none else some (l.getD (getE l u at_).toNat ent0)
theorem srt_eq {l : List Ent} (h : Srt l) {x y : Ent} (hx : x ∈ l) (hy : y ∈ l) (e : cmpE x y = 0) : x = y := by
  obtain ⟨i, hi, rfl⟩ := List.mem_iff_getElem.1 hx
  obtain ⟨j, hj, rfl⟩ := List.mem_iff_getElem.1 hy
  rcases Nat.lt_trichotomy i j with h1 | h1 | h1
  · have := List.pairwise_iff_getElem.1 h i j hi hj h1
    omega
  · subst h1; rfl
  · have h2 := List.pairwise_iff_getElem.1 h j i hj hi h1
    have h3 := cmpE_neg l[i] l[j]
    omega
/-- What is told: none, where none is seen; else the first that is seen. -/
theorem topE_cases {l : List Ent} (h : Srt l) (u : ByteArray) (at_ : Int) :
    (topE l u at_ = none ∧ ∀ e ∈ l, sees u at_ e = false) ∨
    ∃ x, x ∈ l ∧ topE l u at_ = some x ∧ sees u at_ x = true ∧ ∀ e ∈ l, sees u at_ e = true → cmpE x e ≤ 0 := by
  unfold topE
  rcases getE_srt h u at_ with ⟨h1, h2⟩ | ⟨j, hj, h1, h2, h3⟩
  · refine .inl ⟨?_, h2⟩
    rw [h1, if_pos (by omega)]
  · refine .inr ⟨l.getD j ent0, ?_, ?_, h2, h3⟩
    · rw [getD_ent l j hj]
      exact List.getElem_mem _
    · rw [h1, if_neg (by omega), Int.toNat_natCast]
theorem sees_u {u : ByteArray} {at_ : Int} {e : Ent} (h : sees u at_ e = true) : e.u = u := by
  unfold sees at h
  simp only [Bool.and_eq_true, decide_eq_true_eq] at h
  exact h.1
/-- TWO TABLES: the newer one first. -/
theorem topE_split {a y o : List Ent} (ha : Srt a) (hy : Srt y) (ho : Srt o) (hm : ∀ x, x ∈ a ↔ (x ∈ o ∨ x ∈ y)) (hq : ∀ x ∈ y, ∀ z ∈ o, z.q < x.q)
    (u : ByteArray) (at_ : Int) : topE a u at_ = (topE y u at_).or (topE o u at_) := by
  rcases topE_cases ha u at_ with ⟨a1, a2⟩ | ⟨x, a1, a2, a3, a4⟩
  · rcases topE_cases hy u at_ with ⟨b1, b2⟩ | ⟨x', b1, b2, b3, b4⟩
    · rcases topE_cases ho u at_ with ⟨c1, c2⟩ | ⟨x', c1, c2, c3, c4⟩
      · rw [a1, b1, c1]; rfl
      · have := a2 x' ((hm x').2 (.inl c1))
        rw [c3] at this; cases this
    · have := a2 x' ((hm x').2 (.inr b1))
      rw [b3] at this; cases this
  · rcases topE_cases hy u at_ with ⟨b1, b2⟩ | ⟨x', b1, b2, b3, b4⟩
    · have hx : x ∈ o := by
        rcases (hm x).1 a1 with h | h
        · exact h
        · have := b2 x h
          rw [a3] at this; cases this
      rcases topE_cases ho u at_ with ⟨c1, c2⟩ | ⟨z, c1, c2, c3, c4⟩
      · have := c2 x hx
        rw [a3] at this; cases this
      · have h1 := a4 z ((hm z).2 (.inl c1)) c3
        have h2 := c4 x hx a3
        have h3 := cmpE_neg x z
        have e : x = z := srt_eq ho hx c1 (by omega)
        rw [a2, b1, c2, e]; rfl
    · have h1 := a4 x' ((hm x').2 (.inr b1)) b3
      rcases (hm x).1 a1 with h | h
      · exfalso
        have h2 := hq x' b1 x h
        have h3 := cmpE_newer ((sees_u a3).trans (sees_u b3).symm) h1
        omega
      · have h2 := b4 x h a3
        have h3 := cmpE_neg x x'
        have e : x = x' := srt_eq hy h b1 (by omega)
        rw [a2, b2, e]; rfl
/-- The newer table: what is right and above both lasts is applied to it. -/
def youngM (o : Mt) (m : Mt) (b : Bt) : Mt := if allO b.q b.l = true ∧ max m.last o.last < b.q then applyM m b.q b.l else m
structure Split (a y o : Mt) : Prop where
  sa : SrtM a
  sy : SrtM y
  so : SrtM o
  last : a.last = max y.last o.last
  mem : ∀ x, x ∈ a.es ↔ (x ∈ o.es ∨ x ∈ y.es)
  above : ∀ x ∈ y.es, o.last < x.q
  len : a.es.length = y.es.length + o.es.length
theorem split_new {o : Mt} (h : SrtM o) (hl : -1 ≤ o.last) : Split o newMt o :=
  ⟨h, newMt_srt, h, by show o.last = max (-1) o.last; omega, fun x => ⟨.inl, fun h => h.elim id fun h => by cases h⟩, fun x h => by (cases h), by simp [newMt]⟩
theorem Split.step {a y o : Mt} (h : Split a y o) (b : Bt) : Split (applyM a b.q b.l) (youngM o y b) o := by
  unfold youngM
  by_cases hc : allO b.q b.l = true ∧ max y.last o.last < b.q
  · have hl := h.last
    have e1 : applyE a b.q b.l = 0 := by
      unfold applyE
      rw [if_pos hc.1, if_neg (by omega)]
    have e2 : applyE y b.q b.l = 0 := by
      unfold applyE
      rw [if_pos hc.1, if_neg (by omega)]
    have s1 := applyM_srt (q := b.q) (l := b.l) h.sa
    have s2 := applyM_srt (q := b.q) (l := b.l) h.sy
    rw [if_pos hc]
    refine ⟨s1, s2, h.so, ?_, ?_, ?_, ?_⟩
    · unfold applyM
      rw [if_pos e1, if_pos e2]
      show b.q + (b.l.length : Int) - 1 = max (b.q + (b.l.length : Int) - 1) o.last
      omega
    · intro x
      unfold applyM
      rw [if_pos e1, if_pos e2]
      show x ∈ putAll a.es b.q b.l ↔ (x ∈ o.es ∨ x ∈ putAll y.es b.q b.l)
      rw [putAll_mem, putAll_mem, h.mem x, or_assoc]
    · intro x
      unfold applyM
      rw [if_pos e2]
      show x ∈ putAll y.es b.q b.l → _
      rw [putAll_mem]
      rintro (hx | ⟨i, hi, rfl⟩)
      · exact h.above x hx
      · show o.last < b.q + i
        omega
    · unfold applyM
      rw [if_pos e1, if_pos e2]
      show (putAll a.es b.q b.l).length = (putAll y.es b.q b.l).length + _
      rw [putAll_len, putAll_len, h.len]
      omega
  · have e1 : applyE a b.q b.l ≠ 0 := by
      unfold applyE
      split
      · rename_i h1
        have : ¬ max y.last o.last < b.q := fun h2 => hc ⟨h1, h2⟩
        have hl := h.last
        rw [if_pos (by omega)]
        decide
      · decide
    rw [if_neg hc]
    unfold applyM
    rw [if_neg e1]
    exact h
theorem Split.all {o : Mt} : ∀ (L : List Bt) {a y : Mt}, Split a y o → Split (L.foldl (fun m b => applyM m b.q b.l) a) (L.foldl (youngM o) y) o
  | [], _, _, h => h
  | b :: L, _, _, h => Split.all L (h.step b)
/-- The batches cut in two. -/
theorem foldM_split (L M : List Bt) (hl : -1 ≤ (foldM L).last) : Split (foldM (L ++ M)) (M.foldl (youngM (foldM L)) newMt) (foldM L) := by
  have := Split.all M (split_new (foldM_srt L) hl)
  unfold foldM at this ⊢
  rw [List.foldl_append]
  exact this
theorem Split.top {a y o : Mt} (h : Split a y o) (u : ByteArray) (at_ : Int) : topE a.es u at_ = (topE y.es u at_).or (topE o.es u at_) :=
  topE_split h.sa.srt h.sy.srt h.so.srt h.mem (fun x hx z hz => by have h1 := h.above x hx; have h2 := h.so.le z hz; omega) u at_
end Go.Proofs.Ytggjkpgkmohmdaa
