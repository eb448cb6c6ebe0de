/-
  Plain mathematics of layer 5: the first and the last node of a sorted list that meet a test; where a search along the levels ends. No program is named.
-/
import Derived.Test.YtggjkpgkmohmdaaSkM
namespace Go.Proofs.Ytggjkpgkmohmdaa
set_option linter.unusedVariables false

section
variable {κ ν : Type} {lt : κ → κ → Bool}
theorem find_least {ns : List (Nd κ ν)} (hs : Sorted lt ns) {p : Nd κ ν → Bool} {y x : Nd κ ν} (h : ns.find? p = some y) (hx : x ∈ ns) (hp : p x = true) : x = y ∨ lt y.k x.k = true := by
  induction ns with
  | nil => cases hx
  | cons z zs ih =>
    obtain ⟨h1, h2⟩ := List.pairwise_cons.1 hs
    rw [List.find?_cons] at h
    cases hz : p z with
    | true =>
      rw [hz] at h
      obtain rfl : z = y := by simpa using h
      rcases List.mem_cons.1 hx with rfl | hx
      · exact .inl rfl
      · exact .inr (h1 x hx)
    | false =>
      rw [hz] at h
      rcases List.mem_cons.1 hx with rfl | hx
      · rw [hp] at hz
        cases hz
      · exact ih h2 h hx
theorem find_of_least (o : SOrd lt) {ns : List (Nd κ ν)} (hs : Sorted lt ns) {p : Nd κ ν → Bool} {y : Nd κ ν} (hy : y ∈ ns) (py : p y = true) (hl : ∀ x ∈ ns, p x = true → x = y ∨ lt y.k x.k = true) : ns.find? p = some y := by
  cases h : ns.find? p with
  | none => exact absurd py (List.find?_eq_none.1 h y hy)
  | some z =>
    rcases find_least hs h hy py with rfl | h1
    · rfl
    · rcases hl z (List.mem_of_find?_eq_some h) (List.find?_some h) with rfl | h2
      · rfl
      · rw [o.asym h1] at h2
        cases h2
theorem find_none {ns : List (Nd κ ν)} {p : Nd κ ν → Bool} (h : ∀ x ∈ ns, p x = false) : ns.find? p = none := List.find?_eq_none.2 fun x hx e => by rw [h x hx] at e; cases e
/-- The last one that meets a test. -/
def lastN (p : Nd κ ν → Bool) : List (Nd κ ν) → Option (Nd κ ν)
  | [] => none
  | x :: xs => match lastN p xs with
    | some y => some y
    | none => if p x then some x else none
theorem lastN_none {p : Nd κ ν → Bool} : ∀ {ns : List (Nd κ ν)}, (∀ x ∈ ns, p x = false) → lastN p ns = none
  | [], _ => rfl
  | x :: xs, h => by
    have h1 := lastN_none (ns := xs) fun y hy => h y (List.mem_cons_of_mem _ hy)
    have h2 := h x (List.mem_cons_self ..)
    simp [lastN, h1, h2]
theorem lastN_of {o : SOrd lt} {p : Nd κ ν → Bool} : ∀ {ns : List (Nd κ ν)}, Sorted lt ns → ∀ {y : Nd κ ν}, y ∈ ns → p y = true → (∀ x ∈ ns, p x = true → x = y ∨ lt x.k y.k = true) → lastN p ns = some y
  | [], _, _, h, _, _ => by cases h
  | x :: xs, hs, y, hy, py, hg => by
    obtain ⟨h1, h2⟩ := List.pairwise_cons.1 hs
    rcases List.mem_cons.1 hy with rfl | hm
    · have hno : lastN p xs = none := lastN_none fun z hz => by
        cases hp : p z with
        | false => rfl
        | true =>
          have a := h1 z hz
          rcases hg z (List.mem_cons_of_mem _ hz) hp with rfl | h3
          · rw [o.irr] at a; cases a
          · rw [o.asym a] at h3; cases h3
      simp [lastN, hno, py]
    · have := lastN_of (o := o) h2 hm py fun z hz hp => hg z (List.mem_cons_of_mem _ hz) hp
      simp [lastN, this]
/-- WHERE A SEARCH ENDS: the place (none: the head) is ahead of k, and what is next there, at the lowest level, is not. -/
structure EndsAt (lt : κ → κ → Bool) (ns : List (Nd κ ν)) (k : κ) (i : Nat) (at_ : Option (Nd κ ν)) : Prop where
  mem : ∀ x, at_ = some x → x ∈ ns ∧ i < x.h ∧ lt x.k k = true
  next : ∀ y, nxt lt ns i (at_.map (·.k)) = some y → lt y.k k = false
theorem nxt_ahead (o : SOrd lt) {k : κ} {a : Option (Nd κ ν)} {ns : List (Nd κ ν)} {i : Nat} (h : EndsAt lt ns k i a) {x : Nd κ ν} (hx : lt x.k k = false) : ltO lt (a.map (·.k)) x.k = true := by
  cases a with
  | none => rfl
  | some z =>
    have hz := (h.mem z rfl).2.2
    show lt z.k x.k = true
    cases h1 : lt k x.k with
    | true => exact o.tr _ _ _ hz h1
    | false =>
      have := o.tot _ _ h1 hx
      rw [← this]
      exact hz
/-- .. What is next there is the first that is not below k. -/
theorem EndsAt.ceil (o : SOrd lt) {ns : List (Nd κ ν)} (hs : Sorted lt ns) (hh : ∀ x ∈ ns, 0 < x.h) {k : κ} {a : Option (Nd κ ν)} (h : EndsAt lt ns k 0 a) : nxt lt ns 0 (a.map (·.k)) = ns.find? fun y => !lt y.k k := by
  cases e : nxt lt ns 0 (a.map (·.k)) with
  | some y =>
    refine (find_of_least o hs (nxt_some e).1 (by rw [h.next y e]; rfl) fun x hx hp => ?_).symm
    have hx2 : lt x.k k = false := by simpa using hp
    exact nxt_least o hs e hx (hh x hx) (nxt_ahead o h hx2)
  | none =>
    refine (find_none fun x hx => ?_).symm
    cases h1 : lt x.k k with
    | true => rfl
    | false =>
      have := nxt_none e hx (hh x hx)
      rw [nxt_ahead o h h1] at this
      cases this
/-- .. The place is the last that is below k. -/
theorem EndsAt.prev (o : SOrd lt) {ns : List (Nd κ ν)} (hs : Sorted lt ns) (hh : ∀ x ∈ ns, 0 < x.h) {k : κ} {a : Option (Nd κ ν)} (h : EndsAt lt ns k 0 a) : a = lastN (fun y => lt y.k k) ns := by
  have key : ∀ x ∈ ns, lt x.k k = true → ltO lt (a.map (·.k)) x.k = false := fun x hx hk => by
    cases h1 : ltO lt (a.map (·.k)) x.k with
    | false => rfl
    | true =>
      cases e : nxt lt ns 0 (a.map (·.k)) with
      | none => rw [nxt_none e hx (hh x hx)] at h1; cases h1
      | some y =>
        have hy := h.next y e
        rcases nxt_least o hs e hx (hh x hx) h1 with rfl | h2
        · rw [hy] at hk; cases hk
        · rw [o.tr _ _ _ h2 hk] at hy; cases hy
  cases a with
  | none =>
    refine (lastN_none fun x hx => ?_).symm
    cases h1 : lt x.k k with
    | false => rfl
    | true =>
      have := key x hx h1
      cases this
  | some z =>
    obtain ⟨hz1, hz2, hz3⟩ := h.mem z rfl
    refine (lastN_of (o := o) hs hz1 hz3 fun x hx hk => ?_).symm
    have h1 : lt z.k x.k = false := key x hx hk
    cases h2 : lt x.k z.k with
    | true => exact .inr rfl
    | false =>
      left
      have hk2 := o.tot _ _ h2 h1
      -- unlike nodes of a sorted list have unlike keys
      have hp : ∀ (l : List (Nd κ ν)), Sorted lt l → ∀ x ∈ l, ∀ z ∈ l, x.k = z.k → x = z := by
        intro l
        induction l with
        | nil => intro _ x hx; cases hx
        | cons y ys ih =>
          intro hs x hx z hz hk
          obtain ⟨a1, a2⟩ := List.pairwise_cons.1 hs
          rcases List.mem_cons.1 hx with ex | hx'
          · rcases List.mem_cons.1 hz with ez | hz'
            · rw [ex, ez]
            · rw [ex] at hk
              exact absurd hk (o.ne (a1 z hz'))
          · rcases List.mem_cons.1 hz with ez | hz'
            · rw [ez] at hk
              exact absurd hk.symm (o.ne (a1 x hx'))
            · exact ih a2 x hx' z hz' hk
      exact hp ns hs x hx z hz1 hk2
/-- One level down: where it has ended above it may go on. -/
theorem step_mem {ns : List (Nd κ ν)} {k : κ} {i : Nat} {a : Option κ} {y : Nd κ ν} (h : nxt lt ns i a = some y) (hk : lt y.k k = true) : y ∈ ns ∧ i < y.h ∧ lt y.k k = true := ⟨(nxt_some h).1, (nxt_some h).2.1, hk⟩
/-- How many stand behind the place: it goes down with each step. -/
def left_ (lt : κ → κ → Bool) (ns : List (Nd κ ν)) (a : Option κ) : Nat := (ns.filter fun y => ltO lt a y.k).length
theorem left_step (o : SOrd lt) {ns : List (Nd κ ν)} {i : Nat} {a : Option κ} {y : Nd κ ν} (h : nxt lt ns i a = some y) : left_ lt ns (some y.k) < left_ lt ns a := by
  obtain ⟨hy, _, ha⟩ := nxt_some h
  have sub : ∀ x : Nd κ ν, ltO lt (some y.k) x.k = true → ltO lt a x.k = true := fun x hx => by
    cases a with
    | none => rfl
    | some z => exact o.tr _ _ _ ha hx
  have gen : ∀ l : List (Nd κ ν), (l.filter fun x => ltO lt (some y.k) x.k).length ≤ (l.filter fun x => ltO lt a x.k).length ∧ (y ∈ l → (l.filter fun x => ltO lt (some y.k) x.k).length < (l.filter fun x => ltO lt a x.k).length) := by
    intro l
    induction l with
    | nil => exact ⟨Nat.le_refl _, fun h => by cases h⟩
    | cons x xs ih =>
      obtain ⟨i1, i2⟩ := ih
      rw [List.filter_cons, List.filter_cons]
      cases h1 : ltO lt (some y.k) x.k with
      | true =>
        rw [sub x h1]
        refine ⟨by simp; omega, fun hm => ?_⟩
        rcases List.mem_cons.1 hm with rfl | hm
        · have : lt y.k y.k = true := h1
          rw [o.irr] at this
          cases this
        · have := i2 hm
          simp
          omega
      | false =>
        cases h2 : ltO lt a x.k with
        | true =>
          refine ⟨by simp; omega, fun _ => by simp; omega⟩
        | false =>
          refine ⟨by simpa using i1, fun hm => ?_⟩
          rcases List.mem_cons.1 hm with rfl | hm
          · rw [ha] at h2
            cases h2
          · simpa using i2 hm
  exact (gen ns).2 hy
end
end Go.Proofs.Ytggjkpgkmohmdaa
