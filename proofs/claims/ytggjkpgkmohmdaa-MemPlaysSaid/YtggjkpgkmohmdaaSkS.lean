/-
  Plain mathematics of layer 5: texts in their order, as keys; and the steps of an insertion, level by level. No program is named.
-/
import Derived.Test.YtggjkpgkmohmdaaSkN
namespace Go.Proofs.Ytggjkpgkmohmdaa
set_option linter.unusedVariables false

/-- Texts, byte by byte. -/
def ltB (a b : ByteArray) : Bool := decide (a.data.toList < b.data.toList)
theorem ordB : SOrd ltB := ⟨fun a => by simp [ltB, List.lt_irrefl], fun a b c h1 h2 => by
    simp only [ltB, decide_eq_true_eq] at *
    exact List.lt_trans h1 h2, fun a b h1 h2 => by
    simp only [ltB, decide_eq_false_iff_not, List.not_lt] at h1 h2
    have h3 : a.data.toList = b.data.toList := List.le_antisymm h2 h1
    cases a
    cases b
    congr 1
    exact Array.toList_inj.1 h3⟩

section
variable {κ ν : Type} {lt : κ → κ → Bool}
/-- What stands next while a node is put in: below level j it is in. -/
def nxtJ (lt : κ → κ → Bool) (ns : List (Nd κ ν)) (n : Nd κ ν) (j i : Nat) (a : Option κ) : Option (Nd κ ν) := nxt lt (if i < j then insN lt n ns else ns) i a
theorem nxtJ_zero (ns : List (Nd κ ν)) (n : Nd κ ν) (i : Nat) (a : Option κ) : nxtJ lt ns n 0 i a = nxt lt ns i a := by
  unfold nxtJ
  rw [if_neg (Nat.not_lt_zero i)]
/-- At the node's own height it is in everywhere. -/
theorem nxtJ_full (o : SOrd lt) {ns : List (Nd κ ν)} (hs : Sorted lt ns) (n : Nd κ ν) (hk : ∀ x ∈ ns, x.k ≠ n.k) (i : Nat) (a : Option κ) : nxtJ lt ns n n.h i a = nxt lt (insN lt n ns) i a := by
  unfold nxtJ
  by_cases h : i < n.h
  · rw [if_pos h]
  · rw [if_neg h]
    rw [nxt_ins o n i a ns hs hk, if_neg (fun h2 => h h2.1)]
theorem SOrd.gt (o : SOrd lt) {a b : κ} (h : lt a b = false) (hn : a ≠ b) : lt b a = true := by
  cases h2 : lt b a with
  | true => rfl
  | false => exact absurd (o.tot a b h h2) hn
/-- Behind the place where the search ends, the new node is next. -/
theorem nxt_place (o : SOrd lt) {ns : List (Nd κ ν)} (hs : Sorted lt ns) (n : Nd κ ν) (hk : ∀ x ∈ ns, x.k ≠ n.k) {j : Nat} (hj : j < n.h) {p : Option (Nd κ ν)} (h : EndsAt lt ns n.k j p) :
    nxt lt (insN lt n ns) j (p.map (·.k)) = some n := by
  rw [nxt_ins o n j _ ns hs hk, if_pos]
  refine ⟨hj, ?_, fun y hy => o.gt (h.next y hy) (hk y (nxt_some hy).1)⟩
  cases p with
  | none => rfl
  | some x => exact (h.mem x rfl).2.2
theorem find_congr' {α : Type} {p q : α → Bool} : ∀ {l : List α}, (∀ x ∈ l, p x = q x) → l.find? p = l.find? q
  | [], _ => rfl
  | x :: xs, h => by
    rw [List.find?_cons, List.find?_cons, h x (List.mem_cons_self ..), find_congr' fun y hy => h y (List.mem_cons_of_mem _ hy)]
/-- What is next behind the place is what the new node's next will be. -/
theorem nxt_after (o : SOrd lt) {ns : List (Nd κ ν)} (hs : Sorted lt ns) (n : Nd κ ν) (hk : ∀ x ∈ ns, x.k ≠ n.k) {j : Nat} {p : Option (Nd κ ν)} (h : EndsAt lt ns n.k j p) :
    nxt lt (insN lt n ns) j (some n.k) = nxt lt ns j (p.map (·.k)) := by
  rw [nxt_ins o n j _ ns hs hk, if_neg (fun h2 => by
    have := h2.2.1
    rw [show ltO lt (some n.k) n.k = lt n.k n.k from rfl, o.irr] at this
    cases this)]
  refine find_congr' fun y hy => ?_
  by_cases hh : j < y.h
  · rw [decide_eq_true hh, Bool.true_and, Bool.true_and]
    show lt n.k y.k = ltO lt (p.map (·.k)) y.k
    cases h1 : ltO lt (p.map (·.k)) y.k with
    | true =>
      cases e : nxt lt ns j (p.map (·.k)) with
      | none => rw [nxt_none e hy hh] at h1; cases h1
      | some z =>
        have hz := o.gt (h.next z e) (hk z (nxt_some e).1)
        rcases nxt_least o hs e hy hh h1 with rfl | h2
        · exact hz
        · exact o.tr _ _ _ hz h2
    | false =>
      cases h2 : lt n.k y.k with
      | false => rfl
      | true =>
        cases p with
        | none => cases h1
        | some x =>
          have := o.tr _ _ _ (h.mem x rfl).2.2 h2
          rw [show ltO lt ((some x).map (·.k)) y.k = lt x.k y.k from rfl, this] at h1
          cases h1
  · rw [decide_eq_false hh, Bool.false_and, Bool.false_and]
/-- At the other places nothing turns. -/
theorem nxt_other (o : SOrd lt) {ns : List (Nd κ ν)} (hs : Sorted lt ns) (n : Nd κ ν) (hk : ∀ x ∈ ns, x.k ≠ n.k) {j : Nat} {p : Option (Nd κ ν)} (h : EndsAt lt ns n.k j p) {a : Option (Nd κ ν)} (ha : ∀ x, a = some x → x ∈ ns ∧ j < x.h) (hne : a.map (·.k) ≠ p.map (·.k)) :
    nxt lt (insN lt n ns) j (a.map (·.k)) = nxt lt ns j (a.map (·.k)) := by
  rw [nxt_ins o n j _ ns hs hk, if_neg]
  rintro ⟨_, h1, h2⟩
  -- nothing stands between the place and the key
  have no : ∀ z ∈ ns, j < z.h → lt z.k n.k = true → ltO lt (p.map (·.k)) z.k = false := fun z hz hh hl => by
    cases h3 : ltO lt (p.map (·.k)) z.k with
    | false => rfl
    | true =>
      cases e : nxt lt ns j (p.map (·.k)) with
      | none => rw [nxt_none e hz hh] at h3; cases h3
      | some y =>
        have hy := h.next y e
        rcases nxt_least o hs e hz hh h3 with rfl | h4
        · rw [hl] at hy; cases hy
        · rw [o.tr _ _ _ h4 hl] at hy; cases hy
  cases p with
  | none =>
    cases a with
    | none => exact hne rfl
    | some z =>
      have := no z (ha z rfl).1 (ha z rfl).2 h1
      cases this
  | some x =>
    obtain ⟨hx, hxj, hxk⟩ := h.mem x rfl
    cases h3 : ltO lt (a.map (·.k)) x.k with
    | true =>
      cases e : nxt lt ns j (a.map (·.k)) with
      | none => rw [nxt_none e hx hxj] at h3; cases h3
      | some y =>
        have hy := o.asym (h2 y e)
        rcases nxt_least o hs e hx hxj h3 with rfl | h4
        · rw [hxk] at hy; cases hy
        · rw [o.tr _ _ _ h4 hxk] at hy; cases hy
    | false =>
      cases a with
      | none => cases h3
      | some z =>
        have h4 : lt x.k z.k = false := no z (ha z rfl).1 (ha z rfl).2 h1
        exact hne (by
          show some z.k = some x.k
          rw [o.tot z.k x.k h3 h4])
end
end Go.Proofs.Ytggjkpgkmohmdaa
