/-
  Layer 8, plain mathematics for AllocTurns: tables without a free zone. No program is named.
-/
import Derived.Test.YtmkadpjacidlkaaAlE
namespace Go.Proofs.Ytmkadpjacidlkaa
set_option linter.unusedVariables false

/-- The first k zones have a role, the others are free. -/
structure TkB (b : Tb) (k Z : Nat) : Prop where
  q : b.q = []
  l : b.r.length = Z
  lo : ∀ i, i < k → 1 ≤ b.r.getD i 0 ∧ b.r.getD i 0 ≤ 5
  hi : ∀ i, k ≤ i → i < Z → b.r.getD i 0 = 0
theorem tk_new (Z : Nat) : TkB (newT (Z : Int)) 0 Z := by
  refine ⟨rfl, by simp [newT], fun i h => absurd h (Nat.not_lt_zero i), fun i _ hi => ?_⟩
  unfold newT
  rw [List.getD_eq_getElem?_getD, List.getElem?_replicate]
  split <;> rfl
theorem free_is {b : Tb} {k : Nat} (hk : k < b.r.length) (h0 : b.r.getD k 0 = 0) (hlo : ∀ i, i < k → b.r.getD i 0 ≠ 0) : freeT b = k := by
  rcases Nat.lt_trichotomy (freeT b) k with h | h | h
  · exact absurd (free_at (show freeT b < b.r.length by omega)) (hlo _ h)
  · exact h
  · exact absurd h0 (free_low h)
theorem tk_next {b : Tb} {k Z : Nat} (h : TkB b k Z) (hk : k < Z) {x : Int} (hx : okRole x = true) : takE b x = 0 ∧ takZ b x = (k : Int) ∧ TkB (takT b x) (k + 1) Z := by
  have hf : freeT b = k := free_is (by rw [h.l]; exact hk) (h.hi k (Nat.le_refl _) hk) fun i hi => by have := (h.lo i hi).1; omega
  have he : takE b x = 0 := by
    unfold takE
    rw [hx, hf, h.l]
    simp [hk]
  have hr := okRole_iff.1 hx
  refine ⟨he, by unfold takZ; rw [if_pos he, hf], ?_⟩
  have e : takT b x = setT b k x.toNat := by unfold takT; rw [if_pos he, hf]
  rw [e]
  have hkl : k < b.r.length := by rw [h.l]; exact hk
  refine ⟨h.q, by rw [set_length]; exact h.l, fun i hi => ?_, fun i hi1 hi2 => ?_⟩
  · show 1 ≤ (b.r.set k x.toNat).getD i 0 ∧ (b.r.set k x.toNat).getD i 0 ≤ 5
    rw [getD_set_n _ _ _ _ hkl]
    split
    · omega
    · exact h.lo i (by omega)
  · show (b.r.set k x.toNat).getD i 0 = 0
    rw [getD_set_n _ _ _ _ hkl, if_neg (by omega)]
    exact h.hi i (by omega) hi2
/-- No zone is free. -/
structure NzB (b : Tb) (Z : Nat) : Prop where
  l : b.r.length = Z
  nz : ∀ i, i < Z → b.r.getD i 0 ≠ 0
theorem tk_nz {b : Tb} {Z : Nat} (h : TkB b Z Z) : NzB b Z := ⟨h.l, fun i hi => by have := (h.lo i hi).1; omega⟩
theorem nz_rel {b : Tb} {Z : Nat} (h : NzB b Z) {y : Int} (he : relE b y = 0) : NzB (relT b y) Z ∧ (relT b y).q = b.q ++ [y.toNat] ∧ y = ((y.toNat : Nat) : Int) := by
  obtain ⟨h1, _, _⟩ := relE_ok he
  obtain ⟨h0, hl⟩ := hasT_iff.1 h1
  have e : relT b y = { r := b.r.set y.toNat 6, q := b.q ++ [y.toNat] } := by unfold relT; rw [if_pos he]
  rw [e]
  refine ⟨⟨by show (b.r.set _ _).length = _; rw [List.length_set]; exact h.l, fun i hi => ?_⟩, rfl, by omega⟩
  show (b.r.set y.toNat 6).getD i 0 ≠ 0
  rw [getD_set_n _ _ _ _ hl]
  split
  · decide
  · exact h.nz i hi
theorem rel_no {b : Tb} {y : Int} (he : relE b y ≠ 0) : relT b y = b := by unfold relT; rw [if_neg he]
/-- A device that is neither armed nor down. -/
structure Calm (m : Dev) : Prop where
  arm : m.arm = none
  down : m.down = false
theorem calm_pow {m : Dev} (h : Calm m) : Calm (powM m) ∧ cmdM m = true := by
  have h1 := h.arm
  unfold powM cmdM
  rw [h1]
  exact ⟨⟨rfl, h.down⟩, rfl⟩
theorem calm_res {m : Dev} (h : Calm m) {z : Int} (hz : hasZ m z = true) : Calm (resM m z) ∧ cmdR m (resErr m z) = 0 := by
  have e : resErr m z = 0 := by unfold resErr; rw [h.down, hz]; rfl
  obtain ⟨_, h2⟩ := calm_pow h
  rw [e]
  refine ⟨?_, by unfold cmdR; rw [h2]; rfl⟩
  unfold resM
  rw [if_pos e, if_pos h2]
  exact (calm_pow (m := setZ m z zn0) ⟨h.arm, h.down⟩).1
theorem nz_rst {b : Tb} {m : Dev} {Z z : Nat} {zs : List Nat} (h : NzB b Z) (hw : WT b) (hq : b.q = z :: zs) (hc : Calm m) (hl : m.zs.length = Z) :
    rstE b m = 0 ∧ rstZ b m = (z : Int) ∧ Calm (rstM b m) ∧ roleT (rstT b m) (z : Int) = 0 ∧ takE (rstT b m) 3 = 0 ∧ takZ (rstT b m) 3 = (z : Int) ∧ NzB (takT (rstT b m) 3) Z ∧ (takT (rstT b m) 3).q = zs := by
  have hz := (hw.qr z).1 (by rw [hq]; exact List.mem_cons_self ..)
  have hhas : hasZ m (z : Int) = true := hasZ_iff.2 ⟨by omega, by rw [hl, ← h.l]; exact hz.1⟩
  obtain ⟨h1, h2⟩ := calm_res hc hhas
  have he : rstE b m = 0 := by unfold rstE; rw [hq]; exact h2
  have eT : rstT b m = { r := b.r.set z 0, q := zs } := by unfold rstT; rw [hq]; show (if _ then _ else _) = _; rw [if_pos he]
  have eM : rstM b m = resM m (z : Int) := by unfold rstM; rw [hq]
  have g : ∀ i, (b.r.set z 0).getD i 0 = if i = z then 0 else b.r.getD i 0 := fun i => getD_set_n _ _ _ _ hz.1
  have hf : freeT { r := b.r.set z 0, q := zs : Tb } = z := free_is (by show z < (b.r.set z 0).length; rw [List.length_set]; exact hz.1) (by show (b.r.set z 0).getD z 0 = 0; rw [g, if_pos rfl]) fun i hi => by
    show (b.r.set z 0).getD i 0 ≠ 0
    rw [g, if_neg (by omega)]
    exact h.nz i (by have := hz.1; rw [h.l] at this; omega)
  have ht : takE { r := b.r.set z 0, q := zs : Tb } 3 = 0 := by
    unfold takE
    rw [hf]
    show (if (!okRole 3) = true then 80 else if decide (z < (b.r.set z 0).length) = true then 0 else 81) = 0
    rw [List.length_set, if_neg (by decide), if_pos (by simpa using hz.1)]
  refine ⟨he, by unfold rstZ; rw [hq]; show (if _ then _ else _) = _; rw [if_pos he], by rw [eM]; exact h1, ?_, by rw [eT]; exact ht, by rw [eT]; unfold takZ; rw [if_pos ht, hf], ?_, ?_⟩
  · rw [eT]
    unfold roleT rolT
    rw [show hasT { r := b.r.set z 0, q := zs : Tb } (z : Int) = true from hasT_iff.2 ⟨by omega, by show z < (b.r.set z 0).length; rw [List.length_set]; exact hz.1⟩]
    show (((b.r.set z 0).getD z 0 : Nat) : Int) = 0
    rw [g, if_pos rfl]
    rfl
  · rw [eT]
    unfold takT
    rw [if_pos ht, hf]
    refine ⟨by show ((b.r.set z 0).set z _).length = Z; rw [List.length_set, List.length_set]; exact h.l, fun i hi => ?_⟩
    show ((b.r.set z 0).set z 3).getD i 0 ≠ 0
    rw [getD_set_n _ _ _ _ (by rw [List.length_set]; exact hz.1), g]
    split
    · decide
    · exact h.nz i hi
  · rw [eT]
    unfold takT
    rw [if_pos ht]
    rfl
theorem nz_zeros {b : Tb} {Z : Nat} (h : NzB b Z) : countT b 0 = 0 := by
  rw [count_zeros]
  unfold zerosT
  rw [List.countP_eq_zero]
  intro x hx h0
  obtain ⟨i, hi, rfl⟩ := List.getElem_of_mem hx
  have := h.nz i (by rw [← h.l]; exact hi)
  rw [List.getD_eq_getElem?_getD, List.getElem?_eq_getElem hi] at this
  exact this (eq_of_beq h0)
end Go.Proofs.Ytmkadpjacidlkaa
