/-
  Plain mathematics of layer 6: what is found in pairs by key; several runs as one. No program is named.
-/
import Derived.Test.YtkcgdmhggndhfaaMgD
namespace Go.Proofs.Ytkcgdmhggndhfaa
set_option linter.unusedVariables false

abbrev SortP (l : List P2) : Prop := l.Pairwise fun x y => x.1 < y.1
theorem runP_iff {l : List P2} : runP l = true ↔ SortP l := by unfold runP; rw [decide_eq_true_eq]
/-- The value of a key. -/
def getP (l : List P2) (k : Int) : Option Int := (l.find? fun x => x.1 == k).map (·.2)
theorem getP_nil (k : Int) : getP [] k = none := rfl
theorem getP_cons (x : P2) (l : List P2) (k : Int) : getP (x :: l) k = if x.1 = k then some x.2 else getP l k := by
  unfold getP
  rw [List.find?_cons]
  by_cases h : x.1 = k
  · rw [if_pos h, show (x.1 == k) = true by simp [h]]
    rfl
  · rw [if_neg h, show (x.1 == k) = false by simp [h]]
theorem hasP_cons (x : P2) (l : List P2) (k : Int) : hasP (x :: l) k = (decide (x.1 = k) || hasP l k) := by
  unfold hasP
  rw [List.any_cons]
  congr 1
theorem hasP_get (l : List P2) (k : Int) : hasP l k = (getP l k).isSome := by
  induction l with
  | nil => rfl
  | cons x xs ih =>
    rw [hasP_cons, getP_cons, ih]
    by_cases h : x.1 = k <;> simp [h]
theorem getP_mem {l : List P2} (hs : SortP l) {x : P2} (hx : x ∈ l) : getP l x.1 = some x.2 := by
  induction l with
  | nil => cases hx
  | cons y ys ih =>
    obtain ⟨h1, h2⟩ := List.pairwise_cons.1 hs
    rw [getP_cons]
    rcases List.mem_cons.1 hx with rfl | hx
    · rw [if_pos rfl]
    · rw [if_neg (by have := h1 x hx; omega)]
      exact ih h2 hx
theorem mem_getP {l : List P2} {k v : Int} (h : getP l k = some v) : (k, v) ∈ l := by
  induction l with
  | nil => cases h
  | cons y ys ih =>
    rw [getP_cons] at h
    by_cases e : y.1 = k
    · rw [if_pos e] at h
      have hv : y.2 = v := Option.some.inj h
      rw [← e, ← hv]
      exact List.mem_cons_self ..
    · rw [if_neg e] at h
      exact List.mem_cons_of_mem _ (ih h)
/-- A sorted list is known by what is found in it. -/
theorem sortP_ext : ∀ {l m : List P2}, SortP l → SortP m → (∀ k, getP l k = getP m k) → l = m
  | [], [], _, _, _ => rfl
  | [], y :: ys, _, _, h => by
    have := h y.1
    rw [getP_nil, getP_cons, if_pos rfl] at this
    cases this
  | x :: xs, [], _, _, h => by
    have := h x.1
    rw [getP_nil, getP_cons, if_pos rfl] at this
    cases this
  | x :: xs, y :: ys, hx, hy, h => by
    obtain ⟨h1, h2⟩ := List.pairwise_cons.1 hx
    obtain ⟨h3, h4⟩ := List.pairwise_cons.1 hy
    have low : ∀ (z : P2) (zs : List P2), SortP (z :: zs) → ∀ k, k < z.1 → getP (z :: zs) k = none := fun z zs hz k hk => by
      cases e : getP (z :: zs) k with
      | none => rfl
      | some v =>
        have := mem_getP e
        rcases List.mem_cons.1 this with h5 | h5
        · have : k = z.1 := congrArg Prod.fst h5
          omega
        · have := (List.pairwise_cons.1 hz).1 _ h5
          have : z.1 < k := this
          omega
    have ek : x.1 = y.1 := by
      rcases Int.lt_trichotomy x.1 y.1 with h5 | h5 | h5
      · have e1 := h x.1
        rw [low y ys hy x.1 h5, getP_cons, if_pos rfl] at e1
        cases e1
      · exact h5
      · have e1 := h y.1
        rw [low x xs hx y.1 h5, getP_cons, if_pos rfl] at e1
        cases e1
    have ev : x = y := by
      have e1 := h x.1
      rw [getP_cons, if_pos rfl, getP_cons, if_pos ek.symm] at e1
      exact Prod.ext ek (Option.some.inj e1)
    subst ev
    refine congrArg (x :: ·) (sortP_ext h2 h4 fun k => ?_)
    have e1 := h k
    rw [getP_cons, getP_cons] at e1
    by_cases e : x.1 = k
    · subst e
      have no : ∀ zs : List P2, (∀ z ∈ zs, x.1 < z.1) → getP zs x.1 = none := fun zs hz => by
        cases e2 : getP zs x.1 with
        | none => rfl
        | some v =>
          have := hz _ (mem_getP e2)
          exact absurd this (Int.lt_irrefl _)
      rw [no xs h1, no ys h3]
    · rw [if_neg e, if_neg e] at e1
      exact e1
theorem insP_mem (n : P2) (l : List P2) (y : P2) : y ∈ insP n l ↔ y = n ∨ y ∈ l := by
  induction l with
  | nil => simp [insP]
  | cons x xs ih =>
    unfold insP
    split
    · simp
    · simp only [List.mem_cons, ih]
      constructor
      · rintro (h | h | h)
        · exact .inr (.inl h)
        · exact .inl h
        · exact .inr (.inr h)
      · rintro (h | h | h)
        · exact .inr (.inl h)
        · exact .inl h
        · exact .inr (.inr h)
theorem insP_sort (n : P2) : ∀ l : List P2, SortP l → hasP l n.1 = false → SortP (insP n l)
  | [], _, _ => List.pairwise_singleton _ _
  | x :: xs, hs, hn => by
    obtain ⟨h1, h2⟩ := List.pairwise_cons.1 hs
    rw [hasP_cons, Bool.or_eq_false_iff, decide_eq_false_iff_not] at hn
    unfold insP
    split
    · rename_i hlt
      refine List.pairwise_cons.2 ⟨fun y hy => ?_, hs⟩
      rcases List.mem_cons.1 hy with rfl | hy
      · exact hlt
      · exact Int.lt_trans hlt (h1 y hy)
    · rename_i hlt
      refine List.pairwise_cons.2 ⟨fun y hy => ?_, insP_sort n xs h2 hn.2⟩
      rcases (insP_mem n xs y).1 hy with rfl | hy
      · have := hn.1
        omega
      · exact h1 y hy
theorem insP_get (n : P2) (k : Int) : ∀ l : List P2, hasP l n.1 = false → getP (insP n l) k = if n.1 = k then some n.2 else getP l k
  | [], _ => getP_cons n [] k
  | x :: xs, hn => by
    rw [hasP_cons, Bool.or_eq_false_iff, decide_eq_false_iff_not] at hn
    unfold insP
    split
    · exact getP_cons n (x :: xs) k
    · rw [getP_cons, insP_get n k xs hn.2, getP_cons]
      by_cases h1 : x.1 = k
      · have : ¬ n.1 = k := fun e => hn.1 (h1.trans e.symm)
        rw [if_pos h1, if_neg this, if_pos h1]
      · rw [if_neg h1, if_neg h1]
theorem oneSt_sort {out : List P2} (h : SortP out) (x : P2) : SortP (oneSt out x) := by
  unfold oneSt
  split
  · exact h
  · rename_i hn
    exact insP_sort x out h (by simpa using hn)
theorem oneSt_get (out : List P2) (x : P2) (k : Int) : getP (oneSt out x) k = (getP out k).or (if x.1 = k then some x.2 else none) := by
  unfold oneSt
  split
  · rename_i hn
    by_cases h : x.1 = k
    · subst h
      rw [hasP_get] at hn
      cases e : getP out x.1 with
      | none => rw [e] at hn; cases hn
      | some v => rfl
    · rw [if_neg h, Option.or_none]
  · rename_i hn
    have hn : hasP out x.1 = false := by simpa using hn
    rw [insP_get x k out hn]
    by_cases h : x.1 = k
    · subst h
      rw [hasP_get] at hn
      rw [if_pos rfl, if_pos rfl]
      cases e : getP out x.1 with
      | none => rfl
      | some v => rw [e] at hn; cases hn
    · rw [if_neg h, if_neg h, Option.or_none]
theorem oneRun_sort (l : List P2) : ∀ {out : List P2}, SortP out → SortP (oneRun out l) := by
  induction l with
  | nil => intro out h; exact h
  | cons x xs ih => intro out h; exact ih (oneSt_sort h x)
theorem oneRun_get (l : List P2) (k : Int) : ∀ out : List P2, getP (oneRun out l) k = (getP out k).or (getP l k) := by
  induction l with
  | nil => intro out; rw [getP_nil, Option.or_none]; rfl
  | cons x xs ih =>
    intro out
    show getP (oneRun (oneSt out x) xs) k = _
    rw [ih, oneSt_get, getP_cons]
    cases getP out k with
    | some v => rfl
    | none =>
      by_cases h : x.1 = k
      · rw [if_pos h, if_pos h]; rfl
      · rw [if_neg h, if_neg h]; rfl
theorem fold_sort (ls : List (List P2)) : ∀ {out : List P2}, SortP out → SortP (ls.foldl oneRun out) := by
  induction ls with
  | nil => intro out h; exact h
  | cons l ls ih => intro out h; exact ih (oneRun_sort l h)
/-- What several runs, as one, have: what the first that has the key has. -/
def firstP (ls : List (List P2)) (k : Int) : Option Int := ls.findSome? fun l => getP l k
theorem fold_get (k : Int) (ls : List (List P2)) : ∀ out : List P2, getP (ls.foldl oneRun out) k = (getP out k).or (firstP ls k) := by
  induction ls with
  | nil => intro out; unfold firstP; rw [List.findSome?_nil, Option.or_none]; rfl
  | cons l ls ih =>
    intro out
    show getP (ls.foldl oneRun (oneRun out l)) k = _
    rw [ih, oneRun_get]
    unfold firstP
    rw [List.findSome?_cons]
    cases getP out k with
    | some v => rfl
    | none =>
      cases getP l k with
      | some v => rfl
      | none => rfl
theorem oneP_sort (ls : List (List P2)) : SortP (oneP ls) := fold_sort ls List.Pairwise.nil
theorem oneP_get (ls : List (List P2)) (k : Int) : getP (oneP ls) k = firstP ls k := by
  unfold oneP
  rw [fold_get, getP_nil, Option.none_or]
/-- A sorted list that tells what the first run that has it tells is the runs as one. -/
theorem oneP_of {ls : List (List P2)} {l : List P2} (hs : SortP l) (hg : ∀ k, getP l k = firstP ls k) : l = oneP ls :=
  sortP_ext hs (oneP_sort ls) fun k => (hg k).trans (oneP_get ls k).symm
theorem firstP_cons (l : List P2) (ls : List (List P2)) (k : Int) : firstP (l :: ls) k = (getP l k).or (firstP ls k) := by
  unfold firstP
  rw [List.findSome?_cons]
  cases getP l k <;> rfl
theorem firstP_nil (k : Int) : firstP [] k = none := rfl
/-! In groups. -/
theorem group_left (x y z : List P2) : oneP [oneP [x, y], z] = oneP [x, y, z] := oneP_of (oneP_sort _) fun k => by
  rw [oneP_get]
  simp only [firstP_cons, firstP_nil, oneP_get, Option.or_none, Option.or_assoc]
theorem group_right (x y z : List P2) : oneP [x, oneP [y, z]] = oneP [x, y, z] := oneP_of (oneP_sort _) fun k => by
  rw [oneP_get]
  simp only [firstP_cons, firstP_nil, oneP_get, Option.or_none]
theorem group_twice {x : List P2} (hs : SortP x) : oneP [x, x] = x := (oneP_of hs fun k => by
  simp only [firstP_cons, firstP_nil, Option.or_none, Option.or_self]).symm
theorem group_one {x : List P2} (hs : SortP x) : oneP [x] = x := (oneP_of hs fun k => by
  simp only [firstP_cons, firstP_nil, Option.or_none]).symm
end Go.Proofs.Ytkcgdmhggndhfaa
