/-
  Plain mathematics of layer 6, for the program's cursor: the best of what stands in several runs is the best of what stands in them as one. No program is named.
-/
import Derived.Test.YtkcgdmhggndhfaaMrE
namespace Go.Proofs.Ytkcgdmhggndhfaa
set_option linter.unusedVariables false

/-- Which keys are better, and which are asked for. -/
structure Better (bt : Int → Int → Bool) : Prop where
  irr : ∀ a, bt a a = false
  trans : ∀ a b c, bt a b = true → bt b c = true → bt a c = true
  neg : ∀ a b c, bt a b = false → bt b c = false → bt a c = false
  tri : ∀ a b, bt a b = false → bt b a = false → a = b
def ltB (a b : Int) : Bool := decide (a < b)
def gtB (a b : Int) : Bool := decide (b < a)
theorem better_lt : Better ltB := ⟨fun a => by simp [ltB], fun a b c h1 h2 => by simp [ltB] at *; omega, fun a b c h1 h2 => by simp [ltB] at *; omega, fun a b h1 h2 => by simp [ltB] at *; omega⟩
theorem better_gt : Better gtB := ⟨fun a => by simp [gtB], fun a b c h1 h2 => by simp [gtB] at *; omega, fun a b c h1 h2 => by simp [gtB] at *; omega, fun a b h1 h2 => by simp [gtB] at *; omega⟩
/-- The place within a run of the best that is asked for; outside it, if there is none. -/
def outP (l : List P2) (i : Int) : Bool := decide (i < 0) || decide ((l.length : Int) ≤ i)
def Sel (pr : Int → Bool) (bt : Int → Int → Bool) (l : List P2) (i : Int) : Prop :=
  (outP l i = true → ∀ x ∈ l, pr x.1 = false) ∧ (outP l i = false → pr (l.getD i.toNat p20).1 = true ∧ ∀ x ∈ l, pr x.1 = true → bt x.1 (l.getD i.toNat p20).1 = false)
def bestSt (pl : List P2 → Int) (bt : Int → Int → Bool) (acc : Option P2) (l : List P2) : Option P2 :=
  if outP l (pl l) then acc else match acc with
    | none => some (l.getD (pl l).toNat p20)
    | some q => if bt (l.getD (pl l).toNat p20).1 q.1 then some (l.getD (pl l).toNat p20) else some q
def bestP (pl : List P2 → Int) (bt : Int → Int → Bool) (ls : List (List P2)) : Option P2 := ls.foldl (bestSt pl bt) none
theorem bestP_snoc (pl : List P2 → Int) (bt : Int → Int → Bool) (ls : List (List P2)) (l : List P2) : bestP pl bt (ls ++ [l]) = bestSt pl bt (bestP pl bt ls) l := by
  unfold bestP
  rw [List.foldl_append]
  rfl
theorem outP_in {l : List P2} {i : Int} (h : outP l i = false) : 0 ≤ i ∧ i < l.length := by
  unfold outP at h
  rw [Bool.or_eq_false_iff, decide_eq_false_iff_not, decide_eq_false_iff_not] at h
  omega
theorem getD_mem {l : List P2} {i : Int} (h : outP l i = false) : l.getD i.toNat p20 ∈ l := by
  have := outP_in h
  rw [getD_of_lt l i.toNat (by omega)]
  exact List.getElem_mem _
theorem firstP_snoc (ls : List (List P2)) (l : List P2) (k : Int) : firstP (ls ++ [l]) k = (firstP ls k).or (getP l k) := by
  unfold firstP
  rw [List.findSome?_append]
  congr 1
  rw [List.findSome?_cons]
  cases getP l k <;> rfl
theorem firstP_mem {ls : List (List P2)} {k v : Int} (h : firstP ls k = some v) : ∃ l ∈ ls, (k, v) ∈ l := by
  unfold firstP at h
  obtain ⟨l, hl, hv⟩ := List.exists_of_findSome?_eq_some h
  exact ⟨l, hl, mem_getP hv⟩
/-- What is held of the best of some runs. -/
def BestOf (pr : Int → Bool) (bt : Int → Int → Bool) (ls : List (List P2)) : Option P2 → Prop
  | none => ∀ l ∈ ls, ∀ x ∈ l, pr x.1 = false
  | some q => pr q.1 = true ∧ (∀ l ∈ ls, ∀ x ∈ l, pr x.1 = true → bt x.1 q.1 = false) ∧ firstP ls q.1 = some q.2
theorem BestOf.snoc {pr : Int → Bool} {bt : Int → Int → Bool} (B : Better bt) {ls : List (List P2)} {r : Option P2} (h : BestOf pr bt ls r) {l : List P2} (hs : SortP l) {pl : List P2 → Int} (hp : Sel pr bt l (pl l)) :
    BestOf pr bt (ls ++ [l]) (bestSt pl bt r l) := by
  unfold bestSt
  cases ho : outP l (pl l) with
  | true =>
    have hno := hp.1 ho
    rw [if_pos rfl]
    cases r with
    | none =>
      intro l' hl' x hx
      rcases List.mem_append.1 hl' with h1 | h1
      · exact h l' h1 x hx
      · obtain rfl : l' = l := by simpa using h1
        exact hno x hx
    | some q =>
      obtain ⟨h1, h2, h3⟩ := h
      refine ⟨h1, fun l' hl' x hx hpx => ?_, by rw [firstP_snoc, h3]; rfl⟩
      rcases List.mem_append.1 hl' with h4 | h4
      · exact h2 l' h4 x hx hpx
      · obtain rfl : l' = l := by simpa using h4
        rw [hno x hx] at hpx
        cases hpx
  | false =>
    obtain ⟨hpr, hbest⟩ := hp.2 ho
    have hmem := getD_mem ho
    rw [if_neg (by simp)]
    generalize l.getD (pl l).toNat p20 = c at *
    have hgl : getP l c.1 = some c.2 := getP_mem hs hmem
    have new : (∀ l' ∈ ls, ∀ x ∈ l', pr x.1 = true → bt x.1 c.1 = false) → (∀ l' ∈ ls, ∀ x ∈ l', x.1 ≠ c.1) → BestOf pr bt (ls ++ [l]) (some c) := fun h1 h2 => by
      refine ⟨hpr, fun l' hl' x hx hpx => ?_, ?_⟩
      · rcases List.mem_append.1 hl' with h4 | h4
        · exact h1 l' h4 x hx hpx
        · obtain rfl : l' = l := by simpa using h4
          exact hbest x hx hpx
      · rw [firstP_snoc]
        cases e : firstP ls c.1 with
        | none => exact hgl
        | some v =>
          obtain ⟨l', hl', hm⟩ := firstP_mem e
          exact absurd (show ((c.1, v) : P2).1 = c.1 from rfl) (h2 l' hl' (c.1, v) hm)
    cases r with
    | none =>
      refine new (fun l' hl' x hx hpx => ?_) (fun l' hl' x hx e => ?_)
      · rw [h l' hl' x hx] at hpx; cases hpx
      · have := h l' hl' x hx
        rw [e, hpr] at this
        cases this
    | some q =>
      obtain ⟨h1, h2, h3⟩ := h
      show BestOf pr bt (ls ++ [l]) (if bt c.1 q.1 then some c else some q)
      cases hb : bt c.1 q.1 with
      | true =>
        rw [if_pos rfl]
        refine new (fun l' hl' x hx hpx => ?_) (fun l' hl' x hx e => ?_)
        · cases e : bt x.1 c.1 with
          | false => rfl
          | true =>
            have := h2 l' hl' x hx hpx
            rw [B.trans _ _ _ e hb] at this
            cases this
        · have := h2 l' hl' x hx (by rw [e]; exact hpr)
          rw [e, hb] at this
          cases this
      | false =>
        rw [if_neg (by simp)]
        refine ⟨h1, fun l' hl' x hx hpx => ?_, by rw [firstP_snoc, h3]; rfl⟩
        rcases List.mem_append.1 hl' with h4 | h4
        · exact h2 l' h4 x hx hpx
        · obtain rfl : l' = l := by simpa using h4
          exact B.neg _ _ _ (hbest x hx hpx) hb
theorem bestP_of {pr : Int → Bool} {bt : Int → Int → Bool} (B : Better bt) {pl : List P2 → Int} (hp : ∀ l, SortP l → Sel pr bt l (pl l)) : ∀ (n : Nat) (ls : List (List P2)), ls.length = n → (∀ l ∈ ls, SortP l) → BestOf pr bt ls (bestP pl bt ls) := by
  intro n
  induction n with
  | zero =>
    intro ls h _
    obtain rfl := List.eq_nil_of_length_eq_zero h
    intro l hl
    cases hl
  | succ n ih =>
    intro ls h hs
    have hne : ls ≠ [] := by rintro rfl; simp at h
    have e : ls = ls.dropLast ++ [ls.getLast hne] := (List.dropLast_concat_getLast hne).symm
    rw [e, bestP_snoc]
    exact (ih ls.dropLast (by simp; omega) (fun l hl => hs l (List.dropLast_subset ls hl))).snoc B (hs _ (List.getLast_mem hne)) (hp _ (hs _ (List.getLast_mem hne)))
/-- THE BEST OF SEVERAL RUNS is the best of them as one. -/
theorem bestP_one {pr : Int → Bool} {bt : Int → Int → Bool} (B : Better bt) {pl : List P2 → Int} (hp : ∀ l, SortP l → Sel pr bt l (pl l)) (ls : List (List P2)) (hs : ∀ l ∈ ls, SortP l) :
    bestP pl bt ls = if outP (oneP ls) (pl (oneP ls)) then none else some ((oneP ls).getD (pl (oneP ls)).toNat p20) := by
  have h1 := bestP_of B hp _ ls rfl hs
  have hL := oneP_sort ls
  have h2 := hp (oneP ls) hL
  have hin : ∀ x ∈ oneP ls, ∃ l ∈ ls, x ∈ l := fun x hx => firstP_mem (v := x.2) (by rw [← oneP_get]; exact getP_mem hL hx)
  cases hr : bestP pl bt ls with
  | none =>
    rw [hr] at h1
    cases ho : outP (oneP ls) (pl (oneP ls)) with
    | true => rw [if_pos rfl]
    | false =>
      have h3 := (h2.2 ho).1
      obtain ⟨l, hl, hx⟩ := hin _ (getD_mem ho)
      rw [h1 l hl _ hx] at h3
      cases h3
  | some q =>
    rw [hr] at h1
    obtain ⟨a1, a2, a3⟩ := h1
    have hq : q ∈ oneP ls := mem_getP (by rw [oneP_get]; exact a3)
    cases ho : outP (oneP ls) (pl (oneP ls)) with
    | true =>
      have := h2.1 ho q hq
      rw [a1] at this
      cases this
    | false =>
      rw [if_neg (by simp)]
      obtain ⟨b1, b2⟩ := h2.2 ho
      have hm := getD_mem ho
      generalize (oneP ls).getD (pl (oneP ls)).toNat p20 = c at *
      obtain ⟨l, hl, hx⟩ := hin c hm
      have ek : q.1 = c.1 := B.tri _ _ (b2 q hq a1) (a2 l hl c hx b1)
      have e1 := getP_mem hL hq
      have e2 := getP_mem hL hm
      rw [ek, e2] at e1
      exact congrArg some (Prod.ext ek (Option.some.inj e1).symm)
theorem sort_at {l : List P2} (h : SortP l) {i j : Nat} (hi : i < l.length) (hj : j < l.length) (hij : i < j) : (l.getD i p20).1 < (l.getD j p20).1 := sortP_getD (runP_iff.2 h) hij hj
theorem mem_at {l : List P2} {x : P2} (h : x ∈ l) : ∃ i, i < l.length ∧ l.getD i p20 = x := by
  obtain ⟨i, hi, rfl⟩ := List.getElem_of_mem h
  exact ⟨i, hi, getD_of_lt l i hi⟩
/-- Places by halves: all below place m are not asked for, all from it on are. -/
theorem sel_lt {l : List P2} (hs : SortP l) (pr : Int → Bool) (m : Nat) (hm : m ≤ l.length) (h1 : ∀ t, t < m → pr (l.getD t p20).1 = false) (h2 : ∀ t, m ≤ t → t < l.length → pr (l.getD t p20).1 = true) : Sel pr ltB l (m : Int) := by
  refine ⟨fun ho x hx => ?_, fun ho => ?_⟩
  · obtain ⟨i, hi, rfl⟩ := mem_at hx
    unfold outP at ho
    rw [Bool.or_eq_true, decide_eq_true_eq, decide_eq_true_eq] at ho
    exact h1 i (by omega)
  · have hb := outP_in ho
    have e : (m : Int).toNat = m := by omega
    rw [e]
    refine ⟨h2 m (Nat.le_refl _) (by omega), fun x hx hp => ?_⟩
    obtain ⟨i, hi, rfl⟩ := mem_at hx
    rcases Nat.lt_trichotomy i m with h | h | h
    · rw [h1 i h] at hp; cases hp
    · subst h; exact better_lt.irr _
    · have := sort_at hs (by omega) hi h
      unfold ltB
      rw [decide_eq_false_iff_not]
      omega
theorem sel_gt {l : List P2} (hs : SortP l) (pr : Int → Bool) (m : Nat) (hm : m ≤ l.length) (h1 : ∀ t, t < m → pr (l.getD t p20).1 = true) (h2 : ∀ t, m ≤ t → t < l.length → pr (l.getD t p20).1 = false) : Sel pr gtB l ((m : Int) - 1) := by
  refine ⟨fun ho x hx => ?_, fun ho => ?_⟩
  · obtain ⟨i, hi, rfl⟩ := mem_at hx
    unfold outP at ho
    rw [Bool.or_eq_true, decide_eq_true_eq, decide_eq_true_eq] at ho
    exact h2 i (by omega) hi
  · have hb := outP_in ho
    have e : ((m : Int) - 1).toNat = m - 1 := by omega
    rw [e]
    refine ⟨h1 (m - 1) (by omega), fun x hx hp => ?_⟩
    obtain ⟨i, hi, rfl⟩ := mem_at hx
    rcases Nat.lt_trichotomy i (m - 1) with h | h | h
    · have := sort_at hs hi (show m - 1 < l.length by omega) h
      unfold gtB
      rw [decide_eq_false_iff_not]
      omega
    · subst h; exact better_gt.irr _
    · rw [h2 i (by omega) hi] at hp; cases hp
theorem ceil_le (l : List P2) (k : Int) : ceilP l k ≤ l.length := List.findIdx_le_length
theorem ceil_below {l : List P2} {k : Int} (hs : SortP l) {t : Nat} (h : t < ceilP l k) : (l.getD t p20).1 < k := by
  have hl := ceil_le l k
  rw [getD_of_lt l t (by omega)]
  have := List.not_of_lt_findIdx h
  simp at this
  omega
theorem ceil_above {l : List P2} {k : Int} (hs : SortP l) {t : Nat} (h : ceilP l k ≤ t) (ht : t < l.length) : k ≤ (l.getD t p20).1 := by
  have hc : ceilP l k < l.length := by omega
  have h1 : k ≤ (l.getD (ceilP l k) p20).1 := by
    rw [getD_of_lt l _ hc]
    have := List.findIdx_getElem (w := hc) (p := fun x : P2 => decide (k ≤ x.1)) (xs := l)
    exact of_decide_eq_true this
  rcases Nat.lt_or_ge (ceilP l k) t with h2 | h2
  · have := sort_at hs hc ht h2
    omega
  · obtain rfl : ceilP l k = t := by omega
    exact h1
theorem sel_first (l : List P2) (hs : SortP l) : Sel (fun _ => true) ltB l 0 := sel_lt hs _ 0 (Nat.zero_le _) (fun t h => absurd h (Nat.not_lt_zero _)) (fun _ _ _ => rfl)
theorem sel_last (l : List P2) (hs : SortP l) : Sel (fun _ => true) gtB l ((l.length : Int) - 1) := sel_gt hs _ l.length (Nat.le_refl _) (fun _ _ => rfl) (fun t h h2 => absurd h2 (by omega))
theorem sel_seek (k : Int) (l : List P2) (hs : SortP l) : Sel (fun x => decide (k ≤ x)) ltB l (ceilP l k : Int) :=
  sel_lt hs _ _ (ceil_le l k) (fun t h => by have := ceil_below hs h; rw [decide_eq_false_iff_not]; omega) (fun t h h2 => by have := ceil_above hs h h2; rw [decide_eq_true_eq]; exact this)
/-- The place behind a key. -/
def behindP (l : List P2) (k : Int) : Nat := if hasP l k then ceilP l k + 1 else ceilP l k
theorem has_at {l : List P2} {k : Int} (hs : SortP l) : hasP l k = true ↔ ceilP l k < l.length ∧ (l.getD (ceilP l k) p20).1 = k := by
  constructor
  · intro h
    unfold hasP at h
    rw [List.any_eq_true] at h
    obtain ⟨x, hx, e⟩ := h
    have e : x.1 = k := by simpa using e
    obtain ⟨i, hi, rfl⟩ := mem_at hx
    have h1 : ¬ i < ceilP l k := fun h => by have := ceil_below hs h; omega
    have h2 := ceil_above hs (Nat.le_refl (ceilP l k)) (by omega)
    rcases Nat.lt_or_ge (ceilP l k) i with h3 | h3
    · have := sort_at hs (show ceilP l k < l.length by omega) hi h3
      omega
    · obtain rfl : i = ceilP l k := by omega
      exact ⟨hi, e⟩
  · rintro ⟨h1, h2⟩
    exact hasP_yes _ h1 (by rw [h2]; exact beq_self_eq_true k)
theorem behind_le {l : List P2} (k : Int) (hs : SortP l) : behindP l k ≤ l.length := by
  unfold behindP
  split
  · rename_i h
    exact (has_at hs |>.1 h).1
  · exact ceil_le l k
theorem sel_next (k : Int) (l : List P2) (hs : SortP l) : Sel (fun x => decide (k < x)) ltB l (behindP l k : Int) := by
  refine sel_lt hs _ _ (behind_le k hs) (fun t h => ?_) (fun t h h2 => ?_)
  · rw [decide_eq_false_iff_not]
    unfold behindP at h
    split at h
    · rename_i h3
      have h4 := (has_at hs).1 h3
      rcases Nat.lt_or_ge t (ceilP l k) with h5 | h5
      · have := ceil_below hs h5
        omega
      · obtain rfl : t = ceilP l k := by omega
        omega
    · have := ceil_below hs h
      omega
  · rw [decide_eq_true_eq]
    unfold behindP at h
    split at h
    · rename_i h3
      have h4 := (has_at hs).1 h3
      have := sort_at hs h4.1 h2 (by omega)
      omega
    · rename_i h3
      have h5 := ceil_above hs h h2
      rcases Int.lt_or_eq_of_le h5 with h6 | h6
      · exact h6
      · exact absurd (hasP_yes t h2 (by rw [← h6]; exact beq_self_eq_true k)) h3
theorem sel_prev (k : Int) (l : List P2) (hs : SortP l) : Sel (fun x => decide (x < k)) gtB l ((ceilP l k : Int) - 1) :=
  sel_gt hs _ _ (ceil_le l k) (fun t h => by have := ceil_below hs h; rw [decide_eq_true_eq]; exact this) (fun t h h2 => by have := ceil_above hs h h2; rw [decide_eq_false_iff_not]; omega)
/-- At an item of a list. -/
theorem ceil_at {l : List P2} (hs : SortP l) {t : Nat} (ht : t < l.length) : ceilP l (l.getD t p20).1 = t := by
  rcases Nat.lt_trichotomy (ceilP l (l.getD t p20).1) t with h | h | h
  · have h1 := ceil_above hs (Nat.le_refl _) (show ceilP l (l.getD t p20).1 < l.length by omega)
    have := sort_at hs (by omega) ht h
    omega
  · exact h
  · have := ceil_below hs h
    omega
theorem behind_at {l : List P2} (hs : SortP l) {t : Nat} (ht : t < l.length) : behindP l (l.getD t p20).1 = t + 1 := by
  unfold behindP
  rw [if_pos ((has_at hs).2 (by rw [ceil_at hs ht]; exact ⟨ht, rfl⟩)), ceil_at hs ht]
end Go.Proofs.Ytkcgdmhggndhfaa
