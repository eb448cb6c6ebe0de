/-
  Plain mathematics of layer 5: texts as the program compares them; what a list tells, on sorted nodes. No program is named.
-/
import Derived.Test.YtggjkpgkmohmdaaSkGU
import Derived.Test.YtggjkpgkmohmdaaSkS
import Derived.Sort.Walk0
namespace Go.Proofs.Ytggjkpgkmohmdaa
set_option linter.unusedVariables false

/-- Texts, as the program compares them. -/
def ltS (a b : ByteArray) : Bool := Op.bytesLess a.toList b.toList
theorem ltS_eq : ltS = ltB := by
  funext a b
  unfold ltS ltB
  rw [bytesLess_eq, ByteArray.toList_eq, ByteArray.toList_eq]
theorem ordS : SOrd ltS := by rw [ltS_eq]; exact ordB
theorem ba_inj {s t : ByteArray} (h : s.data.toList = t.data.toList) : s = t := ByteArray.ext (Array.toList_inj.1 h)
theorem beqS (a b : ByteArray) : (a.toList == b.toList) = decide (a = b) := by
  by_cases h : a = b
  · subst h
    simp
  · rw [decide_eq_false h, beq_eq_false_iff_ne, ByteArray.toList_eq, ByteArray.toList_eq]
    exact fun e => h (ba_inj e)
theorem beqI (a b : Int) : (a == b) = decide (a = b) := by
  by_cases h : a = b <;> simp [h]

section
variable {κ ν : Type} {lt : κ → κ → Bool}
/-- The least that is not below k. -/
def ceilN (lt : κ → κ → Bool) (ns : List (Nd κ ν)) (k : κ) : Option (Nd κ ν) := ns.find? fun y => !lt y.k k
def nextN (lt : κ → κ → Bool) (ns : List (Nd κ ν)) (k : κ) : Option (Nd κ ν) := ns.find? fun y => lt k y.k
def prevN (lt : κ → κ → Bool) (ns : List (Nd κ ν)) (k : κ) : Option (Nd κ ν) := lastN (fun y => lt y.k k) ns
def floorN (lt : κ → κ → Bool) (ns : List (Nd κ ν)) (k : κ) : Option (Nd κ ν) := lastN (fun y => !lt k y.k) ns
/-- The node of a key. -/
def getN [DecidableEq κ] (ns : List (Nd κ ν)) (k : κ) : Option (Nd κ ν) := ns.find? fun y => decide (y.k = k)
theorem lastN_mem {p : Nd κ ν → Bool} : ∀ {ns : List (Nd κ ν)} {y : Nd κ ν}, lastN p ns = some y → y ∈ ns ∧ p y = true
  | [], y, h => by cases h
  | x :: xs, y, h => by
    rw [lastN] at h
    cases e : lastN p xs with
    | some z =>
      rw [e] at h
      obtain rfl : z = y := by simpa using h
      obtain ⟨h1, h2⟩ := lastN_mem e
      exact ⟨List.mem_cons_of_mem _ h1, h2⟩
    | none =>
      rw [e] at h
      cases hp : p x with
      | true =>
        rw [hp] at h
        obtain rfl : x = y := by simpa using h
        exact ⟨List.mem_cons_self .., hp⟩
      | false =>
        rw [hp] at h
        cases h
theorem lastN_none_iff {p : Nd κ ν → Bool} : ∀ {ns : List (Nd κ ν)}, lastN p ns = none → ∀ x ∈ ns, p x = false
  | [], _, x, hx => by cases hx
  | z :: zs, h, x, hx => by
    rw [lastN] at h
    cases e : lastN p zs with
    | some y => rw [e] at h; cases h
    | none =>
      rw [e] at h
      rcases List.mem_cons.1 hx with rfl | hx
      · cases hp : p x with
        | false => rfl
        | true => rw [hp] at h; cases h
      · exact lastN_none_iff e x hx
theorem lastN_most {p : Nd κ ν → Bool} : ∀ {ns : List (Nd κ ν)}, Sorted lt ns → ∀ {y x : Nd κ ν}, lastN p ns = some y → x ∈ ns → p x = true → x = y ∨ lt x.k y.k = true
  | [], _, _, _, _, hx, _ => by cases hx
  | z :: zs, hs, y, x, h, hx, hp => by
    obtain ⟨h1, h2⟩ := List.pairwise_cons.1 hs
    rw [lastN] at h
    cases e : lastN p zs with
    | some y' =>
      rw [e] at h
      obtain rfl : y' = y := by simpa using h
      rcases List.mem_cons.1 hx with rfl | hx
      · exact .inr (h1 _ (lastN_mem e).1)
      · exact lastN_most h2 e hx hp
    | none =>
      rw [e] at h
      rcases List.mem_cons.1 hx with rfl | hx
      · rw [hp] at h
        exact .inl (by simpa using h)
      · rw [lastN_none_iff e x hx] at hp
        cases hp
theorem ceil_some (o : SOrd lt) {ns : List (Nd κ ν)} {k : κ} {y : Nd κ ν} (hs : Sorted lt ns) (h : ceilN lt ns k = some y) (hk : y.k ≠ k) : ∀ x ∈ ns, x.k ≠ k := fun x hx e => by
  rcases find_least hs h hx (by rw [e, o.irr]; rfl) with rfl | h2
  · exact hk e
  · have := List.find?_some h
    rw [← e, h2] at this
    cases this
theorem ceil_none (o : SOrd lt) {ns : List (Nd κ ν)} {k : κ} (h : ceilN lt ns k = none) : ∀ x ∈ ns, x.k ≠ k := fun x hx e => by
  refine List.find?_eq_none.1 h x hx ?_
  rw [e, o.irr]
  rfl
theorem get_of_mem [DecidableEq κ] (o : SOrd lt) {ns : List (Nd κ ν)} (hs : Sorted lt ns) {y : Nd κ ν} (hy : y ∈ ns) : getN ns y.k = some y :=
  find_of_least o hs hy (decide_eq_true rfl) fun x hx hp => .inl (sorted_key o hs hx hy (of_decide_eq_true hp))
theorem get_none [DecidableEq κ] {ns : List (Nd κ ν)} {k : κ} (h : ∀ x ∈ ns, x.k ≠ k) : getN ns k = none := find_none fun x hx => decide_eq_false (h x hx)
theorem ceil_of_mem (o : SOrd lt) {ns : List (Nd κ ν)} (hs : Sorted lt ns) {y : Nd κ ν} (hy : y ∈ ns) : ceilN lt ns y.k = some y :=
  find_of_least o hs hy (by rw [o.irr]; rfl) fun x hx hp => by
    cases h : lt y.k x.k with
    | true => exact .inr rfl
    | false =>
      left
      have hp : lt x.k y.k = false := by simpa using hp
      exact sorted_key o hs hx hy (o.tot _ _ hp h)
theorem next_absent (o : SOrd lt) {ns : List (Nd κ ν)} {k : κ} (h : ∀ x ∈ ns, x.k ≠ k) : nextN lt ns k = ceilN lt ns k := find_congr' fun x hx => by
  cases h1 : lt x.k k with
  | true => rw [o.asym h1]; rfl
  | false => rw [o.gt h1 (h x hx)]; rfl
theorem nxt_zero {ns : List (Nd κ ν)} (hh : ∀ x ∈ ns, 0 < x.h) (k : κ) : nxt lt ns 0 (some k) = nextN lt ns k := find_congr' fun x hx => by
  rw [decide_eq_true (hh x hx), Bool.true_and]
  rfl
theorem nxt_first {ns : List (Nd κ ν)} (hh : ∀ x ∈ ns, 0 < x.h) : nxt lt ns 0 none = ns.head? := by
  cases ns with
  | nil => rfl
  | cons x xs =>
    show List.find? _ (x :: xs) = _
    rw [List.find?_cons, decide_eq_true (hh x (List.mem_cons_self ..))]
    rfl
theorem lastN_congr {p q : Nd κ ν → Bool} : ∀ {ns : List (Nd κ ν)}, (∀ x ∈ ns, p x = q x) → lastN p ns = lastN q ns
  | [], _ => rfl
  | x :: xs, h => by
    rw [lastN, lastN, lastN_congr fun y hy => h y (List.mem_cons_of_mem _ hy), h x (List.mem_cons_self ..)]
theorem floor_there (o : SOrd lt) {ns : List (Nd κ ν)} (hs : Sorted lt ns) {y : Nd κ ν} (hy : y ∈ ns) : floorN lt ns y.k = some y :=
  lastN_of (o := o) hs hy (by rw [o.irr]; rfl) fun x hx hp => by
    have hp : lt y.k x.k = false := by simpa using hp
    cases h : lt x.k y.k with
    | true => exact .inr rfl
    | false => exact .inl (sorted_key o hs hx hy (o.tot _ _ h hp))
theorem floor_absent (o : SOrd lt) {ns : List (Nd κ ν)} {k : κ} (h : ∀ x ∈ ns, x.k ≠ k) : floorN lt ns k = prevN lt ns k := lastN_congr fun x hx => by
  cases h1 : lt x.k k with
  | true => rw [o.asym h1]; rfl
  | false => rw [o.gt h1 (h x hx)]; rfl
theorem EndsAt.absent (o : SOrd lt) {ns : List (Nd κ ν)} (hs : Sorted lt ns) (hh : ∀ x ∈ ns, 0 < x.h) {k : κ} {a : Option (Nd κ ν)} (h : EndsAt lt ns k 0 a) (hy : ∀ y, nxt lt ns 0 (a.map (·.k)) = some y → y.k ≠ k) : ∀ x ∈ ns, x.k ≠ k := by
  have hc := h.ceil o hs hh
  intro x hx e
  cases en : nxt lt ns 0 (a.map (·.k)) with
  | none => rw [en] at hc; exact ceil_none o hc.symm x hx e
  | some y => rw [en] at hc; exact ceil_some o hs hc.symm (hy y en) x hx e
/-- Behind the greatest key below k stands the least that is not below it. -/
theorem next_prev (o : SOrd lt) {ns : List (Nd κ ν)} (hs : Sorted lt ns) {k : κ} {f : Nd κ ν} (h : prevN lt ns k = some f) : nextN lt ns f.k = ceilN lt ns k := find_congr' fun x hx => by
  have hf : lt f.k k = true := (lastN_mem h).2
  cases h1 : lt x.k k with
  | true =>
    rcases lastN_most hs h hx h1 with rfl | h2
    · rw [o.irr]; rfl
    · rw [o.asym h2]; rfl
  | false =>
    have : lt f.k x.k = true := by
      cases h2 : lt k x.k with
      | true => exact o.tr _ _ _ hf h2
      | false => rw [← o.tot _ _ h2 h1]; exact hf
    rw [this]; rfl
/-- Where the search for the last one ends: nothing is next at the lowest level. -/
theorem last_end (o : SOrd lt) {ns : List (Nd κ ν)} (hs : Sorted lt ns) (hh : ∀ x ∈ ns, 0 < x.h) {a : Option (Nd κ ν)} (ha : ∀ x, a = some x → x ∈ ns) (h : nxt lt ns 0 (a.map (·.k)) = none) : a = ns.getLast? := by
  cases a with
  | none =>
    cases ns with
    | nil => rfl
    | cons x xs =>
      rw [show (Option.map (fun x : Nd κ ν => x.k) none) = none from rfl, nxt_first hh] at h
      cases h
  | some x =>
    have hx := ha x rfl
    have hno : ∀ z ∈ ns, lt x.k z.k = false := fun z hz => nxt_none h hz (hh z hz)
    cases e : ns.getLast? with
    | none =>
      rw [List.getLast?_eq_none_iff] at e
      rw [e] at hx
      cases hx
    | some z =>
      obtain ⟨ys, rfl⟩ := List.getLast?_eq_some_iff.1 e
      have hz := hno z (by simp)
      rcases List.mem_append.1 hx with hx' | hx'
      · have := (List.pairwise_append.1 hs).2.2 x hx' z (by simp)
        rw [this] at hz
        cases hz
      · simp at hx'
        rw [hx']
end
end Go.Proofs.Ytggjkpgkmohmdaa
