/-
  Plain mathematics of layer 5: a sorted list of nodes with heights; which node stands next at a level; what an insertion turns. No program is named.
-/
import Derived.Test.YtggjkpgkmohmdaaMemA
namespace Go.Proofs.Ytggjkpgkmohmdaa
set_option linter.unusedVariables false

/-- A strict order in which unlike keys are never alike. -/
structure SOrd {κ : Type} (lt : κ → κ → Bool) : Prop where
  irr : ∀ a, lt a a = false
  tr : ∀ a b c, lt a b = true → lt b c = true → lt a c = true
  tot : ∀ a b, lt a b = false → lt b a = false → a = b
theorem SOrd.asym {κ : Type} {lt : κ → κ → Bool} (o : SOrd lt) {a b : κ} (h : lt a b = true) : lt b a = false := by
  cases h2 : lt b a with
  | false => rfl
  | true =>
    have := o.tr a b a h h2
    rw [o.irr] at this
    cases this
theorem SOrd.ne {κ : Type} {lt : κ → κ → Bool} (o : SOrd lt) {a b : κ} (h : lt a b = true) : a ≠ b := fun e => by
  rw [e, o.irr] at h
  cases h
structure Nd (κ ν : Type) where
  b : Nat
  s : Nat
  k : κ
  v : ν
  h : Nat
section
variable {κ ν : Type} (lt : κ → κ → Bool)
/-- Behind a place: none is the head, which is ahead of all. -/
def ltO (a : Option κ) (k : κ) : Bool := match a with
  | none => true
  | some x => lt x k
/-- The next node at a level. -/
def nxt (ns : List (Nd κ ν)) (i : Nat) (a : Option κ) : Option (Nd κ ν) := ns.find? fun y => decide (i < y.h) && ltO lt a y.k
def Sorted (ns : List (Nd κ ν)) : Prop := ns.Pairwise fun x y => lt x.k y.k = true
/-- Put a node at its place. -/
def insN (n : Nd κ ν) : List (Nd κ ν) → List (Nd κ ν)
  | [] => [n]
  | x :: xs => if lt n.k x.k then n :: x :: xs else x :: insN n xs
variable {lt}
theorem insN_mem (n : Nd κ ν) (ns : List (Nd κ ν)) (y : Nd κ ν) : y ∈ insN lt n ns ↔ y = n ∨ y ∈ ns := by
  induction ns with
  | nil => simp [insN]
  | cons x xs ih =>
    unfold insN
    split
    · simp
    · simp only [List.mem_cons, ih]
      constructor
      · rintro (h | h | h)
        · exact .inr (.inl h)
        · exact .inl h
        · exact .inr (.inr h)
      · rintro (h | h | h)
        · exact .inr (.inl h)
        · exact .inl h
        · exact .inr (.inr h)
theorem insN_sorted (o : SOrd lt) (n : Nd κ ν) : ∀ ns : List (Nd κ ν), Sorted lt ns → (∀ x ∈ ns, x.k ≠ n.k) → Sorted lt (insN lt n ns) := by
  intro ns
  induction ns with
  | nil => intro _ _; exact List.pairwise_singleton _ _
  | cons x xs ih =>
    intro hs hn
    obtain ⟨h1, h2⟩ := List.pairwise_cons.1 hs
    unfold insN
    split
    · rename_i hlt
      refine List.pairwise_cons.2 ⟨fun y hy => ?_, hs⟩
      rcases List.mem_cons.1 hy with rfl | hy
      · exact hlt
      · exact o.tr _ _ _ hlt (h1 y hy)
    · rename_i hlt
      have hx : lt x.k n.k = true := by
        cases h3 : lt x.k n.k with
        | true => rfl
        | false => exact absurd (o.tot _ _ h3 (by simpa using hlt)) (hn x (List.mem_cons_self ..))
      refine List.pairwise_cons.2 ⟨fun y hy => ?_, ih h2 fun y hy => hn y (List.mem_cons_of_mem _ hy)⟩
      rcases (insN_mem n xs y).1 hy with rfl | hy
      · exact hx
      · exact h1 y hy
theorem insN_length (n : Nd κ ν) (ns : List (Nd κ ν)) : (insN lt n ns).length = ns.length + 1 := by
  induction ns with
  | nil => rfl
  | cons x xs ih =>
    unfold insN
    split
    · simp
    · simp [ih]
theorem nxt_some {ns : List (Nd κ ν)} {i : Nat} {a : Option κ} {y : Nd κ ν} (h : nxt lt ns i a = some y) : y ∈ ns ∧ i < y.h ∧ ltO lt a y.k = true := by
  have h1 := List.mem_of_find?_eq_some h
  have h2 := List.find?_some h
  rw [Bool.and_eq_true, decide_eq_true_eq] at h2
  exact ⟨h1, h2⟩
/-- Whoever stands behind the place, at that level, stands not ahead of the next. -/
theorem nxt_least (o : SOrd lt) {ns : List (Nd κ ν)} (hs : Sorted lt ns) {i : Nat} {a : Option κ} {y x : Nd κ ν} (h : nxt lt ns i a = some y) (hx : x ∈ ns) (hi : i < x.h) (ha : ltO lt a x.k = true) : x = y ∨ lt y.k x.k = true := by
  induction ns with
  | nil => cases hx
  | cons z zs ih =>
    obtain ⟨h1, h2⟩ := List.pairwise_cons.1 hs
    unfold nxt at h
    rw [List.find?_cons] at h
    cases hz : (decide (i < z.h) && ltO lt a z.k) with
    | true =>
      rw [hz] at h
      obtain rfl : z = y := by simpa using h
      rcases List.mem_cons.1 hx with rfl | hx
      · exact .inl rfl
      · exact .inr (h1 x hx)
    | false =>
      rw [hz] at h
      rcases List.mem_cons.1 hx with rfl | hx
      · rw [ha, decide_eq_true hi] at hz
        cases hz
      · exact ih h2 h hx
theorem nxt_none {ns : List (Nd κ ν)} {i : Nat} {a : Option κ} (h : nxt lt ns i a = none) {x : Nd κ ν} (hx : x ∈ ns) (hi : i < x.h) : ltO lt a x.k = false := by
  have := List.find?_eq_none.1 h x hx
  rw [Bool.and_eq_true, decide_eq_true_eq] at this
  cases h2 : ltO lt a x.k with
  | false => rfl
  | true => exact absurd ⟨hi, h2⟩ this
/-- WHAT AN INSERTION TURNS: the new node is next where it stands behind the place and ahead of what was next. -/
theorem nxt_ins (o : SOrd lt) (n : Nd κ ν) (i : Nat) (a : Option κ) : ∀ ns : List (Nd κ ν), Sorted lt ns → (∀ x ∈ ns, x.k ≠ n.k) →
    nxt lt (insN lt n ns) i a = if i < n.h ∧ ltO lt a n.k = true ∧ (∀ y, nxt lt ns i a = some y → lt n.k y.k = true) then some n else nxt lt ns i a := by
  intro ns
  induction ns with
  | nil =>
    intro _ _
    unfold insN nxt
    by_cases h : i < n.h ∧ ltO lt a n.k = true
    · rw [if_pos ⟨h.1, h.2, fun y hy => by cases hy⟩]
      simp [h.1, h.2]
    · rw [if_neg (fun h2 => h ⟨h2.1, h2.2.1⟩)]
      simp only [List.find?_cons, List.find?_nil]
      have : (decide (i < n.h) && ltO lt a n.k) = false := by
        rw [Bool.and_eq_false_iff, decide_eq_false_iff_not]
        by_cases h3 : i < n.h
        · right
          cases h4 : ltO lt a n.k with
          | false => rfl
          | true => exact absurd ⟨h3, h4⟩ h
        · exact .inl h3
      rw [this]
  | cons x xs ih =>
    intro hs hn
    obtain ⟨h1, h2⟩ := List.pairwise_cons.1 hs
    have ihx := ih h2 fun y hy => hn y (List.mem_cons_of_mem _ hy)
    by_cases hlt : lt n.k x.k = true
    · have e : insN lt n (x :: xs) = n :: x :: xs := by unfold insN; rw [if_pos hlt]
      have hall : ∀ y, nxt lt (x :: xs) i a = some y → lt n.k y.k = true := fun y hy => by
        rcases List.mem_cons.1 (nxt_some hy).1 with rfl | hm
        · exact hlt
        · exact o.tr _ _ _ hlt (h1 y hm)
      rw [e]
      show List.find? _ (n :: x :: xs) = _
      rw [List.find?_cons]
      by_cases h : i < n.h ∧ ltO lt a n.k = true
      · rw [if_pos ⟨h.1, h.2, hall⟩, h.2, decide_eq_true h.1]
        rfl
      · rw [if_neg (fun h2 => h ⟨h2.1, h2.2.1⟩)]
        have : (decide (i < n.h) && ltO lt a n.k) = false := by
          rw [Bool.and_eq_false_iff, decide_eq_false_iff_not]
          by_cases h3 : i < n.h
          · right
            cases h4 : ltO lt a n.k with
            | false => rfl
            | true => exact absurd ⟨h3, h4⟩ h
          · exact .inl h3
        rw [this]
        rfl
    · have hlt' : lt n.k x.k = false := by simpa using hlt
      have hx : lt x.k n.k = true := by
        cases h3 : lt x.k n.k with
        | true => rfl
        | false => exact absurd (o.tot _ _ h3 hlt') (hn x (List.mem_cons_self ..))
      have e : insN lt n (x :: xs) = x :: insN lt n xs := by
        show (if lt n.k x.k = true then _ else _) = _
        rw [if_neg hlt]
      rw [e]
      show List.find? _ (x :: insN lt n xs) = _
      rw [List.find?_cons]
      cases hz : (decide (i < x.h) && ltO lt a x.k) with
      | true =>
        have e2 : nxt lt (x :: xs) i a = some x := by
          show List.find? _ (x :: xs) = _
          rw [List.find?_cons, hz]
        rw [e2, if_neg (fun h => by
          have := h.2.2 x rfl
          rw [hlt'] at this
          cases this)]
      | false =>
        have e2 : nxt lt (x :: xs) i a = nxt lt xs i a := by
          show List.find? _ (x :: xs) = _
          rw [List.find?_cons, hz]
          rfl
        rw [e2]
        exact ihx
end
end Go.Proofs.Ytggjkpgkmohmdaa
