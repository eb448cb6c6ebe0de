/-
  Layer 8, plain mathematics for AllocLowest: how many zones are free, and which is the lowest. No program is named.
-/
import Derived.Test.YtmkadpjacidlkaaAlA
namespace Go.Proofs.Ytmkadpjacidlkaa
set_option linter.unusedVariables false

def zerosT (t : Tb) : Nat := t.r.countP fun x => x == 0
theorem zeros_new (z : Int) : zerosT (newT z) = z.toNat := by
  unfold zerosT newT
  rw [List.countP_replicate]
  rfl
theorem count_zeros (t : Tb) : countT t 0 = zerosT t := by
  unfold countT zerosT
  congr 1
  funext x
  rw [Bool.eq_iff_iff, beq_iff_eq, beq_iff_eq]
  omega
theorem zeros_le (t : Tb) : zerosT t ≤ t.r.length := List.countP_le_length
/-- A free zone gets a role. -/
theorem zeros_set {t : Tb} {z x : Nat} (hz : z < t.r.length) (h0 : t.r.getD z 0 = 0) (hx : x ≠ 0) : zerosT (setT t z x) + 1 = zerosT t := by
  have h1 : t.r[z] = 0 := by
    rw [List.getD_eq_getElem?_getD, List.getElem?_eq_getElem hz] at h0
    exact h0
  have hpos : 0 < zerosT t := List.countP_pos_iff.2 ⟨t.r[z], List.getElem_mem hz, by rw [h1]; rfl⟩
  unfold zerosT setT at *
  show (t.r.set z x).countP _ + 1 = _
  rw [List.countP_set hz, h1]
  simp [hx]
  omega
theorem free_zeros (t : Tb) : freeT t < t.r.length ↔ 0 < zerosT t := by
  unfold freeT zerosT
  rw [List.findIdx_lt_length, List.countP_pos_iff]
theorem set_length (t : Tb) (z x : Nat) : (setT t z x).r.length = t.r.length := by simp [setT]
/-- Behind a take the lowest free zone stands higher. -/
theorem free_up {t : Tb} {x : Nat} (h : freeT t < t.r.length) (hx : x ≠ 0) : freeT t < freeT (setT t (freeT t) x) := by
  rcases Nat.lt_or_ge (freeT t) (freeT (setT t (freeT t) x)) with h1 | h1
  · exact h1
  · exfalso
    have hl : freeT (setT t (freeT t) x) < (setT t (freeT t) x).r.length := by rw [set_length]; omega
    have h2 := free_at hl
    have h3 : (setT t (freeT t) x).r.getD (freeT (setT t (freeT t) x)) 0 = if freeT (setT t (freeT t) x) = freeT t then x else t.r.getD (freeT (setT t (freeT t) x)) 0 := getD_set_n t.r _ _ x h
    rw [h2] at h3
    by_cases h4 : freeT (setT t (freeT t) x) = freeT t
    · rw [if_pos h4] at h3
      exact hx h3.symm
    · rw [if_neg h4] at h3
      exact free_low (t := t) (by omega) h3.symm
theorem own_zeros {t : Tb} {z : Int} (h : ownE t z 1 = 0) : zerosT (ownT t z 1) + 1 = zerosT t ∧ (ownT t z 1).r.length = t.r.length := by
  obtain ⟨h1, _, h3⟩ := ownE_ok h
  unfold ownT
  rw [if_pos h]
  exact ⟨zeros_set (hasT_iff.1 h1).2 h3 (by decide), set_length _ _ _⟩
theorem own_no {t : Tb} {z x : Int} (h : ¬ ownE t z x = 0) : ownT t z x = t := by unfold ownT; rw [if_neg h]
theorem take_bad {t : Tb} {x : Int} (h : okRole x = false) : takE t x = 80 ∧ takZ t x = 0 ∧ takT t x = t := by
  have e : takE t x = 80 := by unfold takE; rw [h]; rfl
  exact ⟨e, by unfold takZ; rw [if_neg (by omega)], by unfold takT; rw [if_neg (by omega)]⟩
theorem take_yes {t : Tb} {x : Int} (h : okRole x = true) (h0 : 0 < zerosT t) : takE t x = 0 ∧ takZ t x = (freeT t : Int) ∧ zerosT (takT t x) + 1 = zerosT t ∧ (takT t x).r.length = t.r.length ∧ freeT t < freeT (takT t x) ∧ roleT (takT t x) (freeT t : Int) = x := by
  have hf := (free_zeros t).2 h0
  have hx := okRole_iff.1 h
  have e : takE t x = 0 := by unfold takE; rw [h, if_neg (by simp), if_pos (by simpa using hf)]
  have e2 : takT t x = setT t (freeT t) x.toNat := by unfold takT; rw [if_pos e]
  refine ⟨e, by unfold takZ; rw [if_pos e], ?_, ?_, ?_, ?_⟩
  · rw [e2]; exact zeros_set hf (free_at hf) (by omega)
  · rw [e2]; exact set_length _ _ _
  · rw [e2]; exact free_up hf (by omega)
  · rw [e2]
    have hh : hasT (setT t (freeT t) x.toNat) (freeT t : Int) = true := hasT_iff.2 ⟨by omega, by rw [set_length]; omega⟩
    unfold roleT rolT
    rw [if_pos hh, show ((freeT t : Int)).toNat = freeT t by omega]
    have : (setT t (freeT t) x.toNat).r.getD (freeT t) 0 = x.toNat := by
      show (t.r.set (freeT t) x.toNat).getD (freeT t) 0 = _
      rw [getD_set_n t.r _ _ _ hf, if_pos rfl]
    rw [this]
    omega
theorem take_none {t : Tb} {x : Int} (h : okRole x = true) (h0 : zerosT t = 0) : takE t x = 81 ∧ takT t x = t := by
  have hf : ¬ freeT t < t.r.length := fun hf => by have := (free_zeros t).1 hf; omega
  have e : takE t x = 81 := by unfold takE; rw [h, if_neg (by simp), if_neg (by simpa using hf)]
  exact ⟨e, by unfold takT; rw [if_neg (by omega)]⟩
end Go.Proofs.Ytmkadpjacidlkaa
