/-
  Layer 8: mathematics of AllocRebuilds; a row of booleans beside a table and a device.
-/
import Derived.Test.YtmkadpjacidlkaaAlF
import Derived.Test.YtmkadpjacidlkaaAlG
import Derived.Laws.MakeOwn
namespace Go.Proofs.Ytmkadpjacidlkaa
set_option linter.unusedVariables false
open Go.RowKit

/-! ### A row of booleans. -/
abbrev bos (l : List Bool) : Array Value := (l.map Value.bool).toArray
def AtS (g : Nat) (e : TypeId) (cs : Array Value) (w : World) (S : Nat → Prop) : Prop := At w g e cs ∧ S g
theorem keepsA (g : Nat) (e : TypeId) (cs : Array Value) : Keeps (AtS g e cs) := ⟨fun h f hn => ⟨h.1.keep f (hn _ h.2), h.2⟩⟩
theorem bos_at {w : World} {g : Nat} {l : List Bool} (h : At w g 4 (bos l)) {i : Nat} (hi : i < l.length) : w.cell? ⟨g, i, none⟩ = some (.bool (l.getD i false)) := by
  rw [h.cell, List.getElem?_toArray, List.getElem?_map, List.getElem?_eq_getElem hi, List.getD_eq_getElem?_getD, List.getElem?_eq_getElem hi]
  rfl
theorem bos_set {w : World} {g : Nat} {l : List Bool} (h : At w g 4 (bos l)) (i : Nat) (x : Bool) : At (w.setCell ⟨g, i, none⟩ (.bool x)) g 4 (bos (l.set i x)) := by
  have := h.set_ i (.bool x)
  rw [List.setIfInBounds_toArray] at this
  show At _ g _ ((l.set i x).map Value.bool).toArray
  rw [show (l.set i x).map Value.bool = (l.map Value.bool).set i (.bool x) from List.map_set]
  exact this
theorem getD_set_b (l : List Bool) (z i : Nat) (x : Bool) (hz : z < l.length) : (l.set z x).getD i false = if i = z then x else l.getD i false := by
  rw [List.getD_eq_getElem?_getD, List.getElem?_set]
  by_cases h : z = i
  · subst h; simp [hz]
  · rw [if_neg h, if_neg (fun e => h e.symm), List.getD_eq_getElem?_getD]
/-! ### Which zones are owned. -/
structure HsB (b : Tb) (hs : List Bool) (Z : Nat) : Prop where
  q : b.q = []
  l : b.r.length = Z
  hl : hs.length = Z
  yes : ∀ i, i < Z → hs.getD i false = true → 1 ≤ b.r.getD i 0 ∧ b.r.getD i 0 ≤ 5
  no : ∀ i, i < Z → hs.getD i false = false → b.r.getD i 0 = 0
theorem new_zero (Z i : Nat) : (newT (Z : Int)).r.getD i 0 = 0 := by
  unfold newT
  rw [List.getD_eq_getElem?_getD, List.getElem?_replicate]
  split <;> rfl
theorem rep_false (Z i : Nat) : (List.replicate Z false).getD i false = false := by
  rw [List.getD_eq_getElem?_getD, List.getElem?_replicate]
  split <;> rfl
theorem hs_new (Z : Nat) : HsB (newT (Z : Int)) (List.replicate Z false) Z :=
  ⟨rfl, by simp [newT], by simp, fun i _ h => absurd h (by rw [rep_false]; decide), fun i _ _ => new_zero Z i⟩
theorem hs_own {b : Tb} {hs : List Bool} {Z : Nat} (h : HsB b hs Z) {y x : Int} (he : ownE b y x = 0) : HsB (ownT b y x) (hs.set y.toNat true) Z ∧ y = ((y.toNat : Nat) : Int) ∧ y.toNat < Z := by
  obtain ⟨h1, h2, h3⟩ := ownE_ok he
  obtain ⟨h4, h5⟩ := hasT_iff.1 h1
  have hx := okRole_iff.1 h2
  have hyZ : y.toNat < Z := by rw [← h.l]; exact h5
  have eT : ownT b y x = setT b y.toNat x.toNat := by unfold ownT; rw [if_pos he]
  refine ⟨?_, by omega, hyZ⟩
  rw [eT]
  have hyl : y.toNat < hs.length := by rw [h.hl]; exact hyZ
  refine ⟨h.q, by rw [set_length]; exact h.l, by rw [List.length_set]; exact h.hl, fun i hi hh => ?_, fun i hi hh => ?_⟩
  · show 1 ≤ (b.r.set y.toNat x.toNat).getD i 0 ∧ (b.r.set y.toNat x.toNat).getD i 0 ≤ 5
    rw [getD_set_n _ _ _ _ h5]
    rw [getD_set_b _ _ _ _ hyl] at hh
    by_cases hiy : i = y.toNat
    · rw [if_pos hiy]
      omega
    · rw [if_neg hiy]
      rw [if_neg hiy] at hh
      exact h.yes i hi hh
  · show (b.r.set y.toNat x.toNat).getD i 0 = 0
    rw [getD_set_n _ _ _ _ h5]
    rw [getD_set_b _ _ _ _ hyl] at hh
    by_cases hiy : i = y.toNat
    · rw [if_pos hiy] at hh
      cases hh
    · rw [if_neg hiy]
      rw [if_neg hiy] at hh
      exact h.no i hi hh
/-! ### A rebuild. -/
theorem calm_app {m : Dev} (h : Calm m) (z : Int) (x : List UInt8) : Calm (appM m z x) := by
  unfold appM
  split
  · exact (calm_pow (m := setZ m z (appZ m z x)) ⟨h.arm, h.down⟩).1
  · exact h
theorem calm_new (z s o : Int) : Calm (newM z s o) := ⟨rfl, rfl⟩
theorem reb_q {b : Tb} (m : Dev) (h : b.q = []) : (rebT b m).q = rebL b m := by
  show b.q ++ rebL b m = _
  rw [h, List.nil_append]
theorem left_again (b : Tb) (m : Dev) {i : Nat} (hi : i < b.r.length) : leftT (rebT b m) m i = false := by
  unfold leftT
  rw [reb_get m hi]
  cases hl : leftT b m i with
  | true => simp
  | false =>
    rw [if_neg (by decide)]
    unfold leftT at hl
    exact hl
theorem reb_again (b : Tb) (m : Dev) : rebL (rebT b m) m = [] ∧ rebT (rebT b m) m = rebT b m := by
  have e : rebL (rebT b m) m = [] := by
    rw [List.eq_nil_iff_forall_not_mem]
    intro i hi
    obtain ⟨h1, h2⟩ := reb_mem.1 hi
    rw [reb_len] at h1
    rw [left_again b m h1] at h2
    cases h2
  refine ⟨e, ?_⟩
  show { r := (rebL (rebT b m) m).foldl (fun r z => r.set z 6) (rebT b m).r, q := (rebT b m).q ++ rebL (rebT b m) m : Tb } = _
  rw [e, List.append_nil]
  rfl
theorem hasD {m : Dev} {Z i : Nat} (hm : m.zs.length = Z) (hi : i < Z) : hasZ m (i : Int) = true := hasZ_iff.2 ⟨by omega, by rw [hm]; exact hi⟩
theorem stateD {m : Dev} {Z i : Nat} (hm : m.zs.length = Z) (hi : i < Z) : stateM m (i : Int) = ((m.zs.getD i zn0).s : Int) := by
  unfold stateM
  rw [hasD hm hi, if_pos rfl]
  rfl
theorem roleD {b : Tb} {Z i : Nat} (hl : b.r.length = Z) (hi : i < Z) : roleT b (i : Int) = ((b.r.getD i 0 : Nat) : Int) := by
  unfold roleT
  rw [hasT_iff.2 ⟨by omega, by rw [Int.toNat_natCast, hl]; exact hi⟩, if_pos rfl]
  rfl
theorem reb_role {b : Tb} {hs : List Bool} {Z : Nat} (h : HsB b hs Z) {m : Dev} (hm : m.zs.length = Z) {i : Nat} (hi : i < Z) :
    (hs.getD i false = true ∧ ∃ x : Nat, roleT (rebT b m) (i : Int) = (x : Int) ∧ 1 ≤ x ∧ x ≤ 5) ∨ (hs.getD i false = false ∧ roleT (rebT b m) (i : Int) = 0 ∧ stateM m (i : Int) = 0) ∨ (hs.getD i false = false ∧ roleT (rebT b m) (i : Int) = 6 ∧ 0 < stateM m (i : Int)) := by
  have hib : i < b.r.length := by rw [h.l]; exact hi
  have hr : roleT (rebT b m) (i : Int) = (((if leftT b m i then 6 else b.r.getD i 0 : Nat)) : Int) := by
    rw [roleD (by rw [reb_len]; exact h.l) hi, reb_get m hib]
  rw [hr, stateD hm hi]
  cases hh : hs.getD i false with
  | true =>
    left
    have h5 := h.yes i hi hh
    have hl : leftT b m i = false := by
      unfold leftT
      rw [show (b.r.getD i 0 == 0) = false by rw [beq_eq_false_iff_ne]; omega]
      rfl
    rw [hl]
    exact ⟨rfl, _, rfl, h5.1, h5.2⟩
  | false =>
    right
    have h0 := h.no i hi hh
    have hl : leftT b m i = !((m.zs.getD i zn0).s == 0) := by
      unfold leftT
      rw [h0]
      rfl
    rw [hl, h0]
    generalize (m.zs.getD i zn0).s = s
    cases s with
    | zero => exact .inl ⟨rfl, rfl, rfl⟩
    | succ s => exact .inr ⟨rfl, rfl, by omega⟩
/-- Free zones are empty. -/
structure FeB (b : Tb) (m : Dev) (Z : Nat) : Prop where
  l : b.r.length = Z
  ml : m.zs.length = Z
  e : ∀ i, i < Z → b.r.getD i 0 = 0 → (m.zs.getD i zn0).s = 0
theorem fe_reb {b : Tb} {m : Dev} {Z : Nat} (hl : b.r.length = Z) (hm : m.zs.length = Z) : FeB (rebT b m) m Z := by
  refine ⟨by rw [reb_len]; exact hl, hm, fun i hi h0 => ?_⟩
  have hib : i < b.r.length := by rw [hl]; exact hi
  rw [reb_get m hib] at h0
  cases hh : leftT b m i with
  | true => rw [hh] at h0; cases h0
  | false =>
    rw [hh] at h0
    have h0 : b.r.getD i 0 = 0 := h0
    unfold leftT at hh
    rw [h0] at hh
    have hh : (!((m.zs.getD i zn0).s == 0)) = false := hh
    simpa using hh
theorem fe_rst {b : Tb} {m : Dev} {Z z : Nat} {zs : List Nat} (h : FeB b m Z) (hw : WT b) (hc : Calm m) (hq : b.q = z :: zs) :
    rstE b m = 0 ∧ FeB (rstT b m) (rstM b m) Z ∧ Calm (rstM b m) ∧ (rstT b m).q = zs := by
  have hz := (hw.qr z).1 (by rw [hq]; exact List.mem_cons_self ..)
  have hzZ : z < Z := by rw [← h.l]; exact hz.1
  have hh := hasD h.ml hzZ
  obtain ⟨h1, h2⟩ := calm_res hc hh
  have he : rstE b m = 0 := by unfold rstE; rw [hq]; exact h2
  have eT : rstT b m = { r := b.r.set z 0, q := zs } := by unfold rstT; rw [hq]; show (if _ then _ else _) = _; rw [if_pos he]
  have eM : rstM b m = resM m (z : Int) := by unfold rstM; rw [hq]
  have ez : (resM m (z : Int)).zs = m.zs.set z zn0 := by
    have e0 : resErr m (z : Int) = 0 := by unfold resErr; rw [hc.down, hh]; rfl
    have e1 : cmdM m = true := (calm_pow hc).2
    unfold resM
    rw [if_pos e0, if_pos e1]
    unfold powM setZ
    rw [hc.arm]
    rfl
  refine ⟨he, ?_, by rw [eM]; exact h1, by rw [eT]⟩
  rw [eT, eM]
  refine ⟨by show (b.r.set z 0).length = Z; rw [List.length_set]; exact h.l, by rw [ez, List.length_set]; exact h.ml, fun i hi h0 => ?_⟩
  rw [ez]
  have h0 : (b.r.set z 0).getD i 0 = 0 := h0
  rw [List.getD_eq_getElem?_getD, List.getElem?_set]
  by_cases hiz : z = i
  · rw [if_pos hiz, if_pos (by rw [h.ml]; exact hzZ)]
    rfl
  · rw [if_neg hiz, ← List.getD_eq_getElem?_getD]
    rw [getD_set_n _ _ _ _ hz.1, if_neg (fun e => hiz e.symm)] at h0
    exact h.e i hi h0
theorem fe_list {b : Tb} {m : Dev} {Z z : Nat} (h : FeB b m Z) (hz : z ∈ listT b 0) : stateM m (z : Int) = 0 ∧ z < Z := by
  unfold listT at hz
  rw [List.mem_filter, List.mem_range] at hz
  have hzZ : z < Z := by rw [← h.l]; exact hz.1
  have h0 : b.r.getD z 0 = 0 := by
    have := hz.2
    rw [beq_iff_eq] at this
    omega
  exact ⟨by rw [stateD h.ml hzZ, h.e z hzZ h0]; rfl, hzZ⟩
theorem list_len (b : Tb) (x : Int) : (listT b x).length ≤ b.r.length := by
  have := List.length_filter_le (fun z => ((b.r.getD z 0 : Nat) : Int) == x) (List.range b.r.length)
  rw [List.length_range] at this
  exact this
theorem count_six {b : Tb} (hw : WT b) (hq : b.q = []) : countT b 6 = 0 := by
  unfold countT
  rw [List.countP_eq_zero]
  intro x hx h0
  obtain ⟨i, hi, rfl⟩ := List.getElem_of_mem hx
  have h6 : b.r.getD i 0 = 6 := by
    rw [List.getD_eq_getElem?_getD, List.getElem?_eq_getElem hi]
    have := eq_of_beq h0
    show b.r[i] = 6
    omega
  have := (hw.qr i).2 ⟨hi, h6⟩
  rw [hq] at this
  cases this
theorem wt_q {b : Tb} (hw : WT b) : b.q.length ≤ 64 := by
  have h6 : ∀ x ∈ b.q, x ∈ List.range 64 := fun x hx => by
    have h7 := ((hw.qr x).1 hx).1
    have h8 := hw.n64
    exact List.mem_range.2 (by omega)
  have h7 := List.Nodup.length_le_of_subset hw.nd h6
  rw [List.length_range] at h7
  exact h7
end Go.Proofs.Ytmkadpjacidlkaa
