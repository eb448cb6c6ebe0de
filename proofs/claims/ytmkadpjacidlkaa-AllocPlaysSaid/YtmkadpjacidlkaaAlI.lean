/-
  Layer 8: mathematics of AllocOne.
-/
import Derived.Test.YtmkadpjacidlkaaAlH
namespace Go.Proofs.Ytmkadpjacidlkaa
set_option linter.unusedVariables false
open Go.RowKit

/-- Held are those that are not free. -/
structure HeB (b : Tb) (hs : List Bool) (Z : Nat) : Prop where
  l : b.r.length = Z
  hl : hs.length = Z
  e : ∀ i, i < Z → hs.getD i false = !(b.r.getD i 0 == 0)
theorem he_new (Z : Nat) : HeB (newT (Z : Int)) (List.replicate Z false) Z := ⟨by simp [newT], by simp, fun i _ => by rw [rep_false, new_zero]; rfl⟩
theorem he_set {b : Tb} {hs : List Bool} {Z : Nat} (h : HeB b hs Z) {z x : Nat} (hz : z < Z) {q : List Nat} : HeB { r := b.r.set z x, q := q } (hs.set z (!(x == 0))) Z := by
  refine ⟨by show (b.r.set z x).length = Z; rw [List.length_set]; exact h.l, by rw [List.length_set]; exact h.hl, fun i hi => ?_⟩
  show (hs.set z (!(x == 0))).getD i false = !((b.r.set z x).getD i 0 == 0)
  rw [getD_set_b _ _ _ _ (by rw [h.hl]; exact hz), getD_set_n _ _ _ _ (by rw [h.l]; exact hz)]
  by_cases hiz : i = z
  · rw [if_pos hiz, if_pos hiz]
  · rw [if_neg hiz, if_neg hiz]
    exact h.e i hi
theorem he_same {b : Tb} {hs : List Bool} {Z : Nat} (h : HeB b hs Z) {z x : Nat} (hz : z < Z) {q : List Nat} (ho : hs.getD z false = !(x == 0)) : HeB { r := b.r.set z x, q := q } hs Z := by
  refine ⟨by show (b.r.set z x).length = Z; rw [List.length_set]; exact h.l, h.hl, fun i hi => ?_⟩
  show hs.getD i false = !((b.r.set z x).getD i 0 == 0)
  rw [getD_set_n _ _ _ _ (by rw [h.l]; exact hz)]
  by_cases hiz : i = z
  · rw [if_pos hiz, hiz]
    exact ho
  · rw [if_neg hiz]
    exact h.e i hi
theorem he_take {b : Tb} {hs : List Bool} {Z : Nat} (h : HeB b hs Z) {x : Int} (he : takE b x = 0) :
    ∃ f : Nat, takZ b x = (f : Int) ∧ f < Z ∧ hs.getD f false = false ∧ HeB (takT b x) (hs.set f true) Z ∧ roleT (takT b x) (f : Int) = x := by
  obtain ⟨h1, h2⟩ := takE_ok he
  have hx := okRole_iff.1 h1
  have h3 : freeT b < Z := by rw [← h.l]; exact h2
  have eT : takT b x = { r := b.r.set (freeT b) x.toNat, q := b.q } := by unfold takT; rw [if_pos he]; rfl
  refine ⟨freeT b, by unfold takZ; rw [if_pos he], h3, by rw [h.e _ h3, free_at h2]; rfl, ?_, ?_⟩
  · rw [eT, show true = !(x.toNat == 0) by rw [show (x.toNat == 0) = false by rw [beq_eq_false_iff_ne]; omega]; rfl]
    exact he_set h h3
  · rw [eT]
    rw [roleD (Z := Z) (by show (b.r.set _ _).length = Z; rw [List.length_set]; exact h.l) h3]
    show (((b.r.set (freeT b) x.toNat).getD (freeT b) 0 : Nat) : Int) = x
    rw [getD_set_n _ _ _ _ h2, if_pos rfl]
    omega
theorem take_no {b : Tb} {x : Int} (h : ¬ takE b x = 0) : takT b x = b := by unfold takT; rw [if_neg h]
theorem he_own {b : Tb} {hs : List Bool} {Z : Nat} (h : HeB b hs Z) {z x : Int} (he : ownE b z x = 0) :
    z = ((z.toNat : Nat) : Int) ∧ z.toNat < Z ∧ hs.getD z.toNat false = false ∧ HeB (ownT b z x) (hs.set z.toNat true) Z := by
  obtain ⟨h1, h2, h3⟩ := ownE_ok he
  obtain ⟨h4, h5⟩ := hasT_iff.1 h1
  have hx := okRole_iff.1 h2
  have hZ : z.toNat < Z := by rw [← h.l]; exact h5
  have eT : ownT b z x = { r := b.r.set z.toNat x.toNat, q := b.q } := by unfold ownT; rw [if_pos he]; rfl
  have h3 : b.r.getD z.toNat 0 = 0 := h3
  refine ⟨by omega, hZ, by rw [h.e _ hZ, h3]; rfl, ?_⟩
  rw [eT, show true = !(x.toNat == 0) by rw [show (x.toNat == 0) = false by rw [beq_eq_false_iff_ne]; omega]; rfl]
  exact he_set h hZ
theorem he_rel {b : Tb} {hs : List Bool} {Z : Nat} (h : HeB b hs Z) {z : Int} (he : relE b z = 0) :
    z = ((z.toNat : Nat) : Int) ∧ z.toNat < Z ∧ hs.getD z.toNat false = true ∧ HeB (relT b z) hs Z := by
  obtain ⟨h1, h2, h3⟩ := relE_ok he
  obtain ⟨h4, h5⟩ := hasT_iff.1 h1
  have hZ : z.toNat < Z := by rw [← h.l]; exact h5
  have h2 : 1 ≤ b.r.getD z.toNat 0 := h2
  have hh : hs.getD z.toNat false = true := by
    rw [h.e _ hZ, show (b.r.getD z.toNat 0 == 0) = false by rw [beq_eq_false_iff_ne]; omega]
    rfl
  have eT : relT b z = { r := b.r.set z.toNat 6, q := b.q ++ [z.toNat] } := by unfold relT; rw [if_pos he]
  refine ⟨by omega, hZ, hh, ?_⟩
  rw [eT]
  exact he_same h hZ hh
theorem he_rst {b : Tb} {hs : List Bool} {Z : Nat} (h : HeB b hs Z) (hw : WT b) {m : Dev} (he : rstE b m = 0) :
    ∃ z : Nat, rstZ b m = (z : Int) ∧ z < Z ∧ hs.getD z false = true ∧ HeB (rstT b m) (hs.set z false) Z := by
  cases hq : b.q with
  | nil =>
    unfold rstE at he
    rw [hq] at he
    cases he
  | cons z zs =>
    have hz := (hw.qr z).1 (by rw [hq]; exact List.mem_cons_self ..)
    have hZ : z < Z := by rw [← h.l]; exact hz.1
    have eT : rstT b m = { r := b.r.set z 0, q := zs } := by unfold rstT; rw [hq]; show (if _ then _ else _) = _; rw [if_pos he]
    refine ⟨z, by unfold rstZ; rw [hq]; show (if _ then _ else _) = _; rw [if_pos he], hZ, ?_, ?_⟩
    · rw [h.e _ hZ, hz.2]
      rfl
    · rw [eT]
      exact he_set h hZ (x := 0)
theorem rst_no {b : Tb} {m : Dev} (h : ¬ rstE b m = 0) : rstT b m = b := by
  unfold rstT
  cases hq : b.q with
  | nil => rfl
  | cons z zs =>
    show (if _ then _ else _) = _
    rw [if_neg h]
/-! ### How many zones have which role. -/
def belT (b : Tb) (k : Nat) : Nat := b.r.countP fun x => decide (x < k)
theorem bel_zero (b : Tb) : belT b 0 = 0 := by
  unfold belT
  rw [List.countP_eq_zero]
  intro x _ h
  simp at h
theorem bel_succ (b : Tb) (k : Nat) : belT b k + countT b (k : Int) = belT b (k + 1) := by
  unfold belT countT
  induction b.r with
  | nil => rfl
  | cons x xs ih =>
    rw [List.countP_cons, List.countP_cons, List.countP_cons, ← ih]
    rcases Nat.lt_trichotomy x k with h | h | h
    · rw [if_pos (by simpa using h), if_neg (by rw [beq_iff_eq]; omega), if_pos (by simp; omega)]
      omega
    · subst h
      rw [if_neg (by simp), if_pos (by simp), if_pos (by simp)]
      omega
    · rw [if_neg (by simp; omega), if_neg (by rw [beq_iff_eq]; omega), if_neg (by simp; omega)]
      omega
theorem bel_all {b : Tb} (hw : WT b) : belT b 7 = b.r.length := by
  unfold belT
  rw [List.countP_eq_length]
  intro x hx
  have := hw.le x hx
  simp
  omega
theorem count_le (b : Tb) (x : Int) : countT b x ≤ b.r.length := List.countP_le_length
theorem count_range (l : List Nat) (x : Int) : (l.countP fun y => ((y : Nat) : Int) == x) = ((List.range l.length).filter fun z => ((l.getD z 0 : Nat) : Int) == x).length := by
  rw [← List.countP_eq_length_filter]
  have e : l = (List.range l.length).map fun z => l.getD z 0 := by
    apply List.ext_getElem
    · simp
    · intro i h1 h2
      simp [h1]
  conv => lhs; rw [e, List.countP_map]
  rfl
theorem count_queue {b : Tb} (hw : WT b) : countT b 6 = b.q.length := by
  unfold countT
  rw [count_range]
  have hnd : ((List.range b.r.length).filter fun z => ((b.r.getD z 0 : Nat) : Int) == 6).Nodup := List.Pairwise.filter _ List.nodup_range
  have hm : ∀ z, z ∈ ((List.range b.r.length).filter fun z => ((b.r.getD z 0 : Nat) : Int) == 6) ↔ z ∈ b.q := fun z => by
    rw [List.mem_filter, List.mem_range, hw.qr, beq_iff_eq]
    constructor
    · rintro ⟨h1, h2⟩
      exact ⟨h1, by omega⟩
    · rintro ⟨h1, h2⟩
      exact ⟨h1, by omega⟩
  have h1 := List.Nodup.length_le_of_subset hnd (fun z hz => (hm z).1 hz)
  have h2 := List.Nodup.length_le_of_subset hw.nd (fun z hz => (hm z).2 hz)
  omega
theorem role_queue {b : Tb} (hw : WT b) {z : Nat} (hz : z ∈ b.q) : roleT b (z : Int) = 6 ∧ z < 64 := by
  obtain ⟨h1, h2⟩ := (hw.qr z).1 hz
  have := hw.n64
  exact ⟨by rw [roleD rfl h1, h2]; rfl, by omega⟩
theorem queue_apart {b : Tb} (hw : WT b) {i j : Nat} (hi : i < b.q.length) (hj : j < i) : ((b.q[j] : Nat) : Int) ≠ ((b.q[i] : Nat) : Int) := by
  have := (List.nodup_iff_pairwise_ne.1 hw.nd)
  have h2 := (List.pairwise_iff_getElem.1 this) j i (by omega) hi hj
  omega
theorem he_role {b : Tb} {hs : List Bool} {Z : Nat} (h : HeB b hs Z) {i : Nat} (hi : i < Z) : hs.getD i false = !(roleT b (i : Int) == 0) := by
  rw [h.e i hi, roleD h.l hi]
  congr 1
  rw [Bool.eq_iff_iff, beq_iff_eq, beq_iff_eq]
  omega
end Go.Proofs.Ytmkadpjacidlkaa
