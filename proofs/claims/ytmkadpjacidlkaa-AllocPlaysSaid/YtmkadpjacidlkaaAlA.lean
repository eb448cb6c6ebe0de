/-
  Layer 8, plain mathematics: a table of zones' roles as the document has it, over layer 7's device. No program is named.
-/
import Derived.Test.YtmkadpjacidlkaaZoA
namespace Go.Proofs.Ytmkadpjacidlkaa
set_option linter.unusedVariables false

/-- A table: each zone's role, and the queue. -/
structure Tb where
  r : List Nat
  q : List Nat
def newT (z : Int) : Tb := ⟨List.replicate z.toNat 0, []⟩
def hasT (t : Tb) (z : Int) : Bool := decide (0 ≤ z) && decide (z < (t.r.length : Int))
def rolT (t : Tb) (z : Int) : Nat := t.r.getD z.toNat 0
def roleT (t : Tb) (z : Int) : Int := if hasT t z then (rolT t z : Int) else -1
def okRole (x : Int) : Bool := decide (1 ≤ x) && decide (x ≤ 5)
def setT (t : Tb) (z : Nat) (x : Nat) : Tb := { t with r := t.r.set z x }
/-- The lowest free zone; how many zones there are, if there is none. -/
def freeT (t : Tb) : Nat := t.r.findIdx fun x => x == 0
def takE (t : Tb) (x : Int) : Int := if !okRole x then 80 else if decide (freeT t < t.r.length) then 0 else 81
def takZ (t : Tb) (x : Int) : Int := if takE t x = 0 then (freeT t : Int) else 0
def takT (t : Tb) (x : Int) : Tb := if takE t x = 0 then setT t (freeT t) x.toNat else t
def ownE (t : Tb) (z x : Int) : Int := if !hasT t z then 70 else if !okRole x || !(rolT t z == 0) then 80 else 0
def ownT (t : Tb) (z x : Int) : Tb := if ownE t z x = 0 then setT t z.toNat x.toNat else t
def relE (t : Tb) (z : Int) : Int := if !hasT t z then 70 else if !okRole (rolT t z : Int) then 80 else 0
def relT (t : Tb) (z : Int) : Tb := if relE t z = 0 then { r := t.r.set z.toNat 6, q := t.q ++ [z.toNat] } else t
def rstE (t : Tb) (m : Dev) : Int := match t.q with
  | [] => 81
  | z :: _ => cmdR m (resErr m (z : Int))
def rstZ (t : Tb) (m : Dev) : Int := match t.q with
  | [] => 0
  | z :: _ => if rstE t m = 0 then (z : Int) else 0
def rstT (t : Tb) (m : Dev) : Tb := match t.q with
  | [] => t
  | z :: zs => if rstE t m = 0 then { r := t.r.set z 0, q := zs } else t
def rstM (t : Tb) (m : Dev) : Dev := match t.q with
  | [] => m
  | z :: _ => resM m (z : Int)
/-- Is zone z free and not empty? -/
def leftT (t : Tb) (m : Dev) (z : Nat) : Bool := (t.r.getD z 0 == 0) && !((m.zs.getD z zn0).s == 0)
def rebL (t : Tb) (m : Dev) : List Nat := (List.range t.r.length).filter (leftT t m)
def rebT (t : Tb) (m : Dev) : Tb := { r := (rebL t m).foldl (fun r z => r.set z 6) t.r, q := t.q ++ rebL t m }
def listT (t : Tb) (x : Int) : List Nat := (List.range t.r.length).filter fun z => ((t.r.getD z 0 : Nat) : Int) == x
def countT (t : Tb) (x : Int) : Nat := t.r.countP fun y => ((y : Nat) : Int) == x

/-! ### What holds of every table. -/
structure WT (t : Tb) : Prop where
  n1 : 1 ≤ t.r.length
  n64 : t.r.length ≤ 64
  le : ∀ x ∈ t.r, x ≤ 6
  nd : t.q.Nodup
  qr : ∀ z, z ∈ t.q ↔ z < t.r.length ∧ t.r.getD z 0 = 6
theorem getD_set_n (l : List Nat) (z i x : Nat) (hz : z < l.length) : (l.set z x).getD i 0 = if i = z then x else l.getD i 0 := by
  rw [List.getD_eq_getElem?_getD, List.getElem?_set]
  by_cases h : z = i
  · subst h; simp [hz]
  · rw [if_neg h, if_neg (fun e => h e.symm), List.getD_eq_getElem?_getD]
theorem getD_mem_n {l : List Nat} {z : Nat} (hz : z < l.length) : l.getD z 0 ∈ l := by
  rw [List.getD_eq_getElem?_getD, List.getElem?_eq_getElem hz]
  exact List.getElem_mem _
theorem hasT_iff {t : Tb} {z : Int} : hasT t z = true ↔ 0 ≤ z ∧ z.toNat < t.r.length := by
  unfold hasT
  rw [Bool.and_eq_true, decide_eq_true_eq, decide_eq_true_eq]
  omega
theorem okRole_iff {x : Int} : okRole x = true ↔ 1 ≤ x ∧ x ≤ 5 := by
  unfold okRole
  rw [Bool.and_eq_true, decide_eq_true_eq, decide_eq_true_eq]
theorem wt_new {z : Int} (h1 : 1 ≤ z) (h2 : z ≤ 64) : WT (newT z) := by
  have e : (newT z).r.length = z.toNat := by simp [newT]
  refine ⟨by omega, by omega, fun x hx => ?_, List.nodup_nil, fun i => ?_⟩
  · obtain rfl : x = 0 := List.eq_of_mem_replicate hx
    omega
  · constructor
    · intro h; cases h
    · rintro ⟨h3, h4⟩
      have : (newT z).r.getD i 0 = 0 := by
        unfold newT
        rw [List.getD_eq_getElem?_getD, List.getElem?_replicate]
        split <;> rfl
      omega
/-- A zone that is not queued gets a role other than 6. -/
theorem wt_set {t : Tb} (h : WT t) {z x : Nat} (hz : z < t.r.length) (h6 : t.r.getD z 0 ≠ 6) (hx : x < 6) : WT (setT t z x) := by
  have e : (setT t z x).r.length = t.r.length := by simp [setT]
  refine ⟨by rw [e]; exact h.n1, by rw [e]; exact h.n64, fun y hy => ?_, h.nd, fun i => ?_⟩
  · rcases List.mem_or_eq_of_mem_set hy with h1 | h1
    · exact h.le y h1
    · omega
  · show i ∈ t.q ↔ i < (setT t z x).r.length ∧ (t.r.set z x).getD i 0 = 6
    rw [e, h.qr, getD_set_n t.r z i x hz]
    by_cases h1 : i = z
    · subst h1
      rw [if_pos rfl]
      constructor
      · intro h2; exact absurd h2.2 h6
      · intro h2; omega
    · rw [if_neg h1]
theorem free_at {t : Tb} (h : freeT t < t.r.length) : t.r.getD (freeT t) 0 = 0 := by
  rw [List.getD_eq_getElem?_getD, List.getElem?_eq_getElem h]
  have := List.findIdx_getElem (w := h) (p := fun x : Nat => x == 0) (xs := t.r)
  exact eq_of_beq this
theorem free_low {t : Tb} {i : Nat} (h : i < freeT t) : t.r.getD i 0 ≠ 0 := by
  have hl : freeT t ≤ t.r.length := List.findIdx_le_length
  have := List.not_of_lt_findIdx h
  rw [List.getD_eq_getElem?_getD, List.getElem?_eq_getElem (by omega)]
  simpa using this
theorem takE_ok {t : Tb} {x : Int} (h : takE t x = 0) : okRole x = true ∧ freeT t < t.r.length := by
  unfold takE at h
  split at h
  · omega
  · rename_i h1
    split at h
    · rename_i h2
      exact ⟨by simpa using h1, by simpa using h2⟩
    · omega
theorem wt_take {t : Tb} (h : WT t) (x : Int) : WT (takT t x) := by
  unfold takT
  split
  · rename_i h1
    obtain ⟨h2, h3⟩ := takE_ok h1
    have := okRole_iff.1 h2
    exact wt_set h h3 (by rw [free_at h3]; decide) (by omega)
  · exact h
theorem ownE_ok {t : Tb} {z x : Int} (h : ownE t z x = 0) : hasT t z = true ∧ okRole x = true ∧ rolT t z = 0 := by
  unfold ownE at h
  split at h
  · omega
  · rename_i h1
    split at h
    · omega
    · rename_i h2
      rw [Bool.or_eq_true, not_or] at h2
      exact ⟨by simpa using h1, by simpa using h2.1, by simpa using h2.2⟩
theorem wt_own {t : Tb} (h : WT t) (z x : Int) : WT (ownT t z x) := by
  unfold ownT
  split
  · rename_i h1
    obtain ⟨h2, h3, h4⟩ := ownE_ok h1
    have := okRole_iff.1 h3
    have hz := (hasT_iff.1 h2).2
    exact wt_set h hz (by unfold rolT at h4; omega) (by omega)
  · exact h
theorem relE_ok {t : Tb} {z : Int} (h : relE t z = 0) : hasT t z = true ∧ 1 ≤ rolT t z ∧ rolT t z ≤ 5 := by
  unfold relE at h
  split at h
  · omega
  · rename_i h1
    split at h
    · omega
    · rename_i h2
      have h3 : okRole (rolT t z : Int) = true := by simpa using h2
      have := okRole_iff.1 h3
      exact ⟨by simpa using h1, by omega, by omega⟩
theorem wt_rel {t : Tb} (h : WT t) (z : Int) : WT (relT t z) := by
  unfold relT
  split
  · rename_i h1
    obtain ⟨h2, h3, h4⟩ := relE_ok h1
    have hz := (hasT_iff.1 h2).2
    have hn : z.toNat ∉ t.q := fun hm => by
      have := ((h.qr _).1 hm).2
      unfold rolT at h4
      omega
    refine ⟨by simpa using h.n1, by simpa using h.n64, fun y hy => ?_, ?_, fun i => ?_⟩
    · rcases List.mem_or_eq_of_mem_set hy with h5 | h5
      · exact h.le y h5
      · omega
    · show (t.q ++ [z.toNat]).Nodup
      rw [List.nodup_append]
      exact ⟨h.nd, by simp, fun a ha b hb => by
        obtain rfl : b = z.toNat := by simpa using hb
        exact fun e => hn (e ▸ ha)⟩
    · show i ∈ t.q ++ [z.toNat] ↔ i < (t.r.set z.toNat 6).length ∧ (t.r.set z.toNat 6).getD i 0 = 6
      rw [List.mem_append, h.qr, List.length_set, getD_set_n t.r _ i 6 hz]
      by_cases h5 : i = z.toNat
      · subst h5
        rw [if_pos rfl]
        exact ⟨fun _ => ⟨hz, rfl⟩, fun _ => .inr (by simp)⟩
      · rw [if_neg h5]
        constructor
        · rintro (h6 | h6)
          · exact h6
          · exact absurd (by simpa using h6) h5
        · exact .inl
  · exact h
theorem wt_rst {t : Tb} (h : WT t) (m : Dev) : WT (rstT t m) := by
  unfold rstT
  cases hq : t.q with
  | nil => exact h
  | cons z zs =>
    show WT (if rstE t m = 0 then { r := t.r.set z 0, q := zs } else t)
    split
    · have hz := (h.qr z).1 (by rw [hq]; exact List.mem_cons_self ..)
      have hnd := h.nd
      rw [hq, List.nodup_cons] at hnd
      refine ⟨by simpa using h.n1, by simpa using h.n64, fun y hy => ?_, hnd.2, fun i => ?_⟩
      · rcases List.mem_or_eq_of_mem_set hy with h5 | h5
        · exact h.le y h5
        · omega
      · show i ∈ zs ↔ i < (t.r.set z 0).length ∧ (t.r.set z 0).getD i 0 = 6
        have h1 := h.qr i
        rw [hq, List.mem_cons] at h1
        rw [List.length_set, getD_set_n t.r z i 0 hz.1]
        by_cases h5 : i = z
        · subst h5
          rw [if_pos rfl]
          exact ⟨fun h6 => absurd h6 hnd.1, fun h6 => by omega⟩
        · rw [if_neg h5]
          constructor
          · intro h6; exact h1.1 (.inr h6)
          · intro h6
            rcases h1.2 h6 with h7 | h7
            · exact absurd h7 h5
            · exact h7
    · exact h
theorem fold_six : ∀ (l : List Nat) (r : List Nat), (l.foldl (fun r z => r.set z 6) r).length = r.length ∧ ∀ i, i < r.length → (l.foldl (fun r z => r.set z 6) r).getD i 0 = if i ∈ l then 6 else r.getD i 0
  | [], r => ⟨rfl, fun i _ => by simp⟩
  | z :: zs, r => by
    obtain ⟨h1, h2⟩ := fold_six zs (r.set z 6)
    have e : ((z :: zs).foldl (fun r z => r.set z 6) r) = zs.foldl (fun r z => r.set z 6) (r.set z 6) := rfl
    rw [e]
    refine ⟨by rw [h1, List.length_set], fun i hi => ?_⟩
    rw [h2 i (by rw [List.length_set]; exact hi)]
    by_cases h3 : i ∈ zs
    · rw [if_pos h3, if_pos (List.mem_cons_of_mem _ h3)]
    · rw [if_neg h3]
      by_cases h4 : i = z
      · subst h4
        rw [getD_set_n r i i 6 hi, if_pos rfl, if_pos (List.mem_cons_self ..)]
      · rw [if_neg (by rw [List.mem_cons]; exact fun h => h.elim h4 h3)]
        by_cases h5 : z < r.length
        · rw [getD_set_n r z i 6 h5, if_neg h4]
        · rw [List.set_eq_of_length_le (by omega)]
theorem fold_le : ∀ (l : List Nat) (r : List Nat), (∀ x ∈ r, x ≤ 6) → ∀ x ∈ l.foldl (fun r z => r.set z 6) r, x ≤ 6
  | [], r, h => h
  | z :: zs, r, h => fold_le zs (r.set z 6) fun x hx => by
    rcases List.mem_or_eq_of_mem_set hx with h1 | h1
    · exact h x h1
    · omega
theorem reb_mem {t : Tb} {m : Dev} {i : Nat} : i ∈ rebL t m ↔ i < t.r.length ∧ leftT t m i = true := by
  unfold rebL
  rw [List.mem_filter, List.mem_range]
theorem left_zero {t : Tb} {m : Dev} {i : Nat} (h : leftT t m i = true) : t.r.getD i 0 = 0 := by
  unfold leftT at h
  rw [Bool.and_eq_true] at h
  exact eq_of_beq h.1
theorem reb_get {t : Tb} (m : Dev) {i : Nat} (hi : i < t.r.length) : (rebT t m).r.getD i 0 = if leftT t m i then 6 else t.r.getD i 0 := by
  show ((rebL t m).foldl (fun r z => r.set z 6) t.r).getD i 0 = _
  rw [(fold_six (rebL t m) t.r).2 i hi]
  by_cases h : leftT t m i = true
  · rw [if_pos (reb_mem.2 ⟨hi, h⟩), if_pos h]
  · rw [if_neg (fun h2 => h (reb_mem.1 h2).2), if_neg h]
theorem reb_len (t : Tb) (m : Dev) : (rebT t m).r.length = t.r.length := (fold_six (rebL t m) t.r).1
theorem wt_reb {t : Tb} (h : WT t) (m : Dev) : WT (rebT t m) := by
  have e := reb_len t m
  refine ⟨by rw [e]; exact h.n1, by rw [e]; exact h.n64, fold_le _ _ h.le, ?_, fun i => ?_⟩
  · show (t.q ++ rebL t m).Nodup
    rw [List.nodup_append]
    refine ⟨h.nd, List.Pairwise.filter _ List.nodup_range, fun a ha b hb => fun e2 => ?_⟩
    subst e2
    have h1 := ((h.qr a).1 ha).2
    have h2 := left_zero (reb_mem.1 hb).2
    omega
  · show i ∈ t.q ++ rebL t m ↔ _
    rw [e, List.mem_append, h.qr, reb_mem]
    constructor
    · rintro (⟨h1, h2⟩ | ⟨h1, h2⟩)
      · refine ⟨h1, ?_⟩
        rw [reb_get m h1]
        split
        · rfl
        · exact h2
      · refine ⟨h1, ?_⟩
        rw [reb_get m h1, if_pos h2]
    · rintro ⟨h1, h2⟩
      rw [reb_get m h1] at h2
      split at h2
      · rename_i h3
        exact .inr ⟨h1, h3⟩
      · exact .inl ⟨h1, h2⟩
end Go.Proofs.Ytmkadpjacidlkaa
