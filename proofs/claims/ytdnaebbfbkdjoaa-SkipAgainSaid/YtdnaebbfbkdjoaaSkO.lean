/-
  Plain mathematics of layer 5: the document's list of pairs beside the sorted nodes: what is put, found, above and below.
-/
import Derived.Test.YtdnaebbfbkdjoaaSkC
import Derived.Test.YtdnaebbfbkdjoaaSkN
namespace Go.Proofs.Ytdnaebbfbkdjoaa
set_option linter.unusedVariables false

def ltI (a b : Int) : Bool := decide (a < b)
theorem ordI : SOrd ltI := ⟨fun a => by simp [ltI], fun a b c h1 h2 => by simp [ltI] at *; omega, fun a b h1 h2 => by simp [ltI] at *; omega⟩
def prOf (x : Nd Int Int) : Pr := ⟨x.k, x.v, (x.h : Int)⟩
/-- The document's insertion, plainly. -/
def insR (n : Pr) : List Pr → List Pr
  | [] => [n]
  | x :: xs => if n.k < x.k then n :: x :: xs else x :: insR n xs
theorem fold_true (n : Pr) : ∀ (l acc : List Pr), l.foldl (insStep n) (acc, true) = (acc ++ l, true) := by
  intro l
  induction l with
  | nil => intro acc; simp
  | cons x xs ih =>
    intro acc
    show xs.foldl (insStep n) (insStep n (acc, true) x) = _
    have e : insStep n (acc, true) x = (acc ++ [x], true) := rfl
    rw [e, ih]
    simp
theorem fold_false (n : Pr) : ∀ (l acc : List Pr), (if (l.foldl (insStep n) (acc, false)).2 then (l.foldl (insStep n) (acc, false)).1 else (l.foldl (insStep n) (acc, false)).1 ++ [n]) = acc ++ insR n l := by
  intro l
  induction l with
  | nil => intro acc; rfl
  | cons x xs ih =>
    intro acc
    show (if (xs.foldl (insStep n) (insStep n (acc, false) x)).2 then _ else _) = _
    by_cases h : n.k < x.k
    · have e : insStep n (acc, false) x = (acc ++ [n] ++ [x], true) := by unfold insStep; simp [h]
      have e2 : insR n (x :: xs) = n :: x :: xs := by unfold insR; rw [if_pos h]
      show (if (xs.foldl (insStep n) (insStep n (acc, false) x)).2 then (xs.foldl (insStep n) (insStep n (acc, false) x)).1 else (xs.foldl (insStep n) (insStep n (acc, false) x)).1 ++ [n]) = _
      rw [e, fold_true, e2]
      simp
    · have e : insStep n (acc, false) x = (acc ++ [x], false) := by unfold insStep; simp [h]
      have e2 : insR n (x :: xs) = x :: insR n xs := by
        show (if n.k < x.k then _ else _) = _
        rw [if_neg h]
      show (if (xs.foldl (insStep n) (insStep n (acc, false) x)).2 then (xs.foldl (insStep n) (insStep n (acc, false) x)).1 else (xs.foldl (insStep n) (insStep n (acc, false) x)).1 ++ [n]) = _
      rw [e, ih, e2]
      simp
theorem insL_plain (n : Pr) (l : List Pr) : insL n l = insR n l := by
  have h := fold_false n l []
  unfold insL insTo
  rw [List.take_length]
  simpa using h
theorem insR_nodes (n : Nd Int Int) : ∀ ns : List (Nd Int Int), insR (prOf n) (ns.map prOf) = (insN ltI n ns).map prOf := by
  intro ns
  induction ns with
  | nil => rfl
  | cons x xs ih =>
    by_cases h : n.k < x.k
    · have e : insN ltI n (x :: xs) = n :: x :: xs := by unfold insN; rw [if_pos (by simpa [ltI] using h)]
      rw [e, List.map_cons]
      show (if (prOf n).k < (prOf x).k then _ else _) = _
      rw [if_pos (show (prOf n).k < (prOf x).k from h)]
      rfl
    · have e : insN ltI n (x :: xs) = x :: insN ltI n xs := by
        show (if ltI n.k x.k = true then _ else _) = _
        rw [if_neg (by simpa [ltI] using h)]
      rw [e, List.map_cons, List.map_cons]
      show (if (prOf n).k < (prOf x).k then _ else prOf x :: insR (prOf n) (xs.map prOf)) = _
      rw [if_neg (show ¬ (prOf n).k < (prOf x).k from h), ih]
/-- What the document's search by place finds. -/
theorem firstAt_find (p : Pr → Bool) : ∀ (l : List Pr) (i : Nat), (firstAt p l i = -1 ∧ l.find? p = none) ∨ ∃ j, j < l.length ∧ firstAt p l i = ((i + j : Nat) : Int) ∧ l.find? p = some (l.getD j pr0) := by
  intro l
  induction l with
  | nil => intro i; exact .inl ⟨rfl, rfl⟩
  | cons x xs ih =>
    intro i
    rw [List.find?_cons]
    cases h : p x with
    | true =>
      refine .inr ⟨0, by simp, ?_, rfl⟩
      show (if p x then (i : Int) else _) = _
      rw [if_pos h]
      rfl
    | false =>
      have e : firstAt p (x :: xs) i = firstAt p xs (i + 1) := by
        show (if p x then (i : Int) else _) = _
        rw [if_neg (by rw [h]; exact Bool.false_ne_true)]
      rw [e]
      rcases ih (i + 1) with h1 | ⟨j, hj, h2, h3⟩
      · exact .inl h1
      · refine .inr ⟨j + 1, by simpa using hj, by rw [h2]; congr 1; omega, ?_⟩
        rw [h3]
        rfl
def lastP (p : Pr → Bool) : List Pr → Option Pr
  | [] => none
  | x :: xs => match lastP p xs with
    | some y => some y
    | none => if p x then some x else none
theorem lastP_snoc (p : Pr → Bool) (x : Pr) : ∀ l : List Pr, lastP p (l ++ [x]) = if p x then some x else lastP p l := by
  intro l
  induction l with
  | nil => simp [lastP]
  | cons y ys ih =>
    show (match lastP p (ys ++ [x]) with | some z => some z | none => if p y then some y else none) = _
    rw [ih]
    cases h : p x with
    | true => rfl
    | false => rfl
theorem lastTo_last (p : Pr → Bool) (l : List Pr) : ∀ n, n ≤ l.length → (lastTo p l n = -1 ∧ lastP p (l.take n) = none) ∨ ∃ j, j < n ∧ lastTo p l n = (j : Int) ∧ lastP p (l.take n) = some (l.getD j pr0) := by
  intro n
  induction n with
  | zero => intro _; exact .inl ⟨rfl, rfl⟩
  | succ n ih =>
    intro hn
    have e : l.take (n + 1) = l.take n ++ [l.getD n pr0] := by
      rw [List.take_add_one]
      simp [List.getD, show n < l.length by omega]
    rw [e, lastP_snoc]
    have e2 : lastTo p l (n + 1) = if p (l.getD n pr0) then (n : Int) else lastTo p l n := rfl
    rw [e2]
    by_cases h : p (l.getD n pr0) = true
    · rw [if_pos h, if_pos h]
      exact .inr ⟨n, by omega, rfl, rfl⟩
    · rw [if_neg h, if_neg h]
      rcases ih (by omega) with h1 | ⟨j, hj, h2, h3⟩
      · exact .inl h1
      · exact .inr ⟨j, by omega, h2, h3⟩
theorem find_map (q : Pr → Bool) (ns : List (Nd Int Int)) : (ns.map prOf).find? q = (ns.find? fun x => q (prOf x)).map prOf := by
  rw [List.find?_map]
  rfl
theorem lastP_map (q : Pr → Bool) : ∀ ns : List (Nd Int Int), lastP q (ns.map prOf) = (lastN (fun x => q (prOf x)) ns).map prOf := by
  intro ns
  induction ns with
  | nil => rfl
  | cons x xs ih =>
    show (match lastP q (xs.map prOf) with | some y => some y | none => if q (prOf x) then some (prOf x) else none) = _
    rw [ih]
    rw [lastN]
    cases h1 : lastN (fun x => q (prOf x)) xs with
    | some y => rfl
    | none => cases h : q (prOf x) <;> simp
end Go.Proofs.Ytdnaebbfbkdjoaa
