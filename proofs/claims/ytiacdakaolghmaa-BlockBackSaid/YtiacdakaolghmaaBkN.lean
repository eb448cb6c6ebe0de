/-
  Layer 12: plain mathematics: what two texts share; pairs in order; their bytes; where a key stands. No program is named.
-/
import Derived.Test.YtiacdakaolghmaaBkA
import Derived.Test.YtiacdakaolghmaaIkN
import Derived.Test.YtiacdakaolghmaaNum
import Derived.Test.YtiacdakaolghmaaBs
namespace Go.Proofs.Ytiacdakaolghmaa
set_option linter.unusedVariables false

/-! ### What two texts share. -/
def shL : List UInt8 → List UInt8 → Nat
  | x :: a, y :: b => if x = y then shL a b + 1 else 0
  | _, _ => 0
theorem shL_nil (b : List UInt8) : shL [] b = 0 := by cases b <;> rfl
theorem shL_nil' (a : List UInt8) : shL a [] = 0 := by cases a <;> rfl
theorem shL_cons (x y : UInt8) (a b : List UInt8) : shL (x :: a) (y :: b) = if x = y then shL a b + 1 else 0 := rfl
theorem shL_comm : ∀ (a b : List UInt8), shL a b = shL b a
  | [], b => by rw [shL_nil, shL_nil']
  | x :: a, [] => rfl
  | x :: a, y :: b => by
    unfold shL
    rw [shL_comm a b]
    by_cases h : x = y
    · rw [if_pos h, if_pos h.symm]
    · rw [if_neg h, if_neg fun h' => h h'.symm]
theorem shL_le : ∀ (a b : List UInt8), shL a b ≤ a.length ∧ shL a b ≤ b.length
  | [], b => by rw [shL_nil]; omega
  | x :: a, [] => by rw [shL_nil']; omega
  | x :: a, y :: b => by
    have := shL_le a b
    unfold shL
    split <;> simp <;> omega
theorem shL_take : ∀ (a b : List UInt8), a.take (shL a b) = b.take (shL a b)
  | [], b => by rw [shL_nil]; rfl
  | x :: a, [] => by rw [shL_nil']; rfl
  | x :: a, y :: b => by
    unfold shL
    split
    · rename_i h
      rw [List.take_succ_cons, List.take_succ_cons, h, shL_take a b]
    · rfl
theorem drop_c (l : List UInt8) (k : Nat) (h : k < l.length) : l.drop k = l.getD k 0 :: l.drop (k + 1) := by
  rw [List.drop_eq_getElem_cons h]
  simp [List.getD, h]
theorem sh_step (a b : List UInt8) (k : Nat) (ha : k < a.length) (hb : k < b.length) (he : shL a b = k + shL (a.drop k) (b.drop k)) :
    (a.getD k 0 ≠ b.getD k 0 → shL a b = k) ∧ (a.getD k 0 = b.getD k 0 → shL a b = (k + 1) + shL (a.drop (k + 1)) (b.drop (k + 1))) := by
  rw [drop_c a k ha, drop_c b k hb, shL_cons] at he
  constructor
  · intro h
    rw [if_neg h] at he
    exact he
  · intro h
    rw [if_pos h] at he
    omega
theorem sh_end (a b : List UInt8) (k : Nat) (h : a.length = k ∨ b.length = k) (he : shL a b = k + shL (a.drop k) (b.drop k)) : shL a b = k := by
  rcases h with h | h
  · rw [List.drop_of_length_le (by omega : a.length ≤ k), shL_nil] at he; exact he
  · rw [List.drop_of_length_le (by omega : b.length ≤ k), shL_nil'] at he; exact he

/-! ### Pairs in order; the first that is not below. -/
def cmpP (l : List Pr) (i j : Nat) : Int := cmpB (bs (l.getD i pr0).key) (bs (l.getD j pr0).key)
def ordP (l : List Pr) : Prop := ∀ i, 1 ≤ i → i < l.length → cmpP l (i - 1) i < 0
instance (l : List Pr) : Decidable (ordP l) := decidable_of_iff (∀ i, i < l.length → 1 ≤ i → cmpP l (i - 1) i < 0) ⟨fun h i h1 h2 => h i h2 h1, fun h i h1 h2 => h i h2 h1⟩
/-- Is a key at place i not below k? -/
def notBelow (l : List Pr) (k : ByteArray) (i : Nat) : Prop := 0 ≤ cmpB (bs (l.getD i pr0).key) (bs k)
def findG (l : List Pr) (k : ByteArray) : Nat → Nat → Nat
  | 0, i => i
  | n + 1, i => if 0 ≤ cmpB (bs (l.getD i pr0).key) (bs k) then i else findG l k n (i + 1)
def findP (l : List Pr) (k : ByteArray) : Nat := findG l k l.length 0
theorem find_step (l : List Pr) (k : ByteArray) (i : Nat) (hi : i < l.length) (he : findP l k = findG l k (l.length - i) i) :
    (notBelow l k i → findP l k = i) ∧ (¬ notBelow l k i → findP l k = findG l k (l.length - (i + 1)) (i + 1)) := by
  obtain ⟨n, hn⟩ : ∃ n, l.length - i = n + 1 := ⟨l.length - i - 1, by omega⟩
  rw [hn] at he
  have hn' : l.length - (i + 1) = n := by omega
  rw [hn']
  unfold findG at he
  unfold notBelow
  exact ⟨fun h => by rw [if_pos h] at he; exact he, fun h => by rw [if_neg h] at he; exact he⟩
theorem findG_is (l : List Pr) (k : ByteArray) : ∀ (n i : Nat), i + n = l.length → i ≤ findG l k n i ∧ findG l k n i ≤ l.length ∧ (∀ j, i ≤ j → j < findG l k n i → ¬ notBelow l k j) ∧ (findG l k n i < l.length → notBelow l k (findG l k n i))
  | 0, i, h => ⟨Nat.le_refl _, by simp [findG]; omega, fun j h1 h2 => by simp [findG] at h2; omega, fun h1 => by simp [findG] at h1; omega⟩
  | n + 1, i, h => by
    unfold findG
    split
    · rename_i hc
      exact ⟨Nat.le_refl _, by omega, fun j h1 h2 => by omega, fun _ => hc⟩
    · rename_i hc
      obtain ⟨h1, h2, h3, h4⟩ := findG_is l k n (i + 1) (by omega)
      refine ⟨by omega, h2, fun j j1 j2 => ?_, h4⟩
      rcases Nat.lt_or_ge i j with h' | h'
      · exact h3 j h' j2
      · obtain rfl : i = j := by omega
        exact hc
theorem findP_is (l : List Pr) (k : ByteArray) : findP l k ≤ l.length ∧ (∀ j, j < findP l k → ¬ notBelow l k j) ∧ (findP l k < l.length → notBelow l k (findP l k)) := by
  obtain ⟨_, h2, h3, h4⟩ := findG_is l k l.length 0 (by omega)
  exact ⟨h2, fun j hj => h3 j (Nat.zero_le _) hj, h4⟩
theorem findP_only {l : List Pr} {k : ByteArray} {i : Nat} (hi : i ≤ l.length) (h1 : ∀ j, j < i → ¬ notBelow l k j) (h2 : i < l.length → notBelow l k i) : findP l k = i := by
  obtain ⟨a, b, c⟩ := findP_is l k
  rcases Nat.lt_trichotomy (findP l k) i with h | h | h
  · exact absurd (c (by omega)) (h1 _ h)
  · exact h
  · exact absurd (h2 (by omega)) (b _ h)

/-! ### The bytes of pairs. -/
def headN (e : Nat) (l : List Pr) (i : Nat) : Nat := if i % e = 0 then 0 else shL (bs (l.getD i pr0).key) (bs (l.getD (i - 1) pr0).key)
def pairB (e : Nat) (l : List Pr) (i : Nat) : List UInt8 :=
  enc (headN e l i) ++ (enc ((l.getD i pr0).key.size - headN e l i) ++ (enc (l.getD i pr0).val.size ++ ((bs (l.getD i pr0).key).drop (headN e l i) ++ bs (l.getD i pr0).val)))
def pairsB (e : Nat) (l : List Pr) : Nat → List UInt8
  | 0 => []
  | k + 1 => pairsB e l k ++ pairB e l k
def startsN (e : Nat) (l : List Pr) : Nat → List Nat
  | 0 => []
  | k + 1 => if k % e = 0 then startsN e l k ++ [(pairsB e l k).length] else startsN e l k
def word4 (n : Nat) : List UInt8 := [UInt8.ofNat (n / 16777216), UInt8.ofNat (n / 65536 % 256), UInt8.ofNat (n / 256 % 256), UInt8.ofNat (n % 256)]
def wordsB (l : List Nat) : List UInt8 := l.flatMap word4
def blockB (e : Nat) (l : List Pr) : List UInt8 := ((pairsB e l l.length ++ wordsB (startsN e l l.length)) ++ word4 (startsN e l l.length).length) ++ [UInt8.ofNat e]
theorem headN_le (e : Nat) (l : List Pr) (i : Nat) : headN e l i ≤ (l.getD i pr0).key.size := by
  unfold headN
  split
  · omega
  · rw [← bs_length]; exact (shL_le _ _).1
theorem startsN_len (e : Nat) (l : List Pr) : ∀ k, (startsN e l k).length ≤ k
  | 0 => Nat.le_refl _
  | k + 1 => by
    have := startsN_len e l k
    unfold startsN
    split <;> simp <;> omega
theorem word4_len (n : Nat) : (word4 n).length = 4 := rfl
theorem wordsB_append (l m : List Nat) : wordsB (l ++ m) = wordsB l ++ wordsB m := by simp [wordsB]
theorem wordsB_one (n : Nat) : wordsB [n] = word4 n := by simp [wordsB]
theorem wordsB_len (l : List Nat) : (wordsB l).length = 4 * l.length := by
  induction l with
  | nil => rfl
  | cons n l ih =>
    show (word4 n ++ wordsB l).length = _
    rw [List.length_append, ih, word4_len, List.length_cons]
    omega
/-- What may be gone through. -/
def Low (m : Nat) (l : List Pr) : Prop := ∀ i, i < l.length → (l.getD i pr0).key.size ≤ m ∧ (l.getD i pr0).val.size ≤ m
theorem pairB_len (e : Nat) (l : List Pr) (i : Nat) (m : Nat) (hm : m ≤ 1000000) (h : (l.getD i pr0).key.size ≤ m ∧ (l.getD i pr0).val.size ≤ m) : (pairB e l i).length ≤ 27 + 2 * m := by
  have h0 := headN_le e l i
  have h1 := enc_len9 (show headN e l i < 9223372036854775808 by omega)
  have h2 := enc_len9 (show (l.getD i pr0).key.size - headN e l i < 9223372036854775808 by omega)
  have h3 := enc_len9 (show (l.getD i pr0).val.size < 9223372036854775808 by omega)
  unfold pairB
  simp only [List.length_append, List.length_drop, bs_length]
  omega
theorem pairsB_len (e : Nat) (l : List Pr) (m : Nat) (hm : m ≤ 1000000) (h : Low m l) : ∀ k, k ≤ l.length → (pairsB e l k).length ≤ k * (27 + 2 * m)
  | 0, _ => by simp [pairsB]
  | k + 1, hk => by
    have h1 := pairsB_len e l m hm h k (by omega)
    have h2 := pairB_len e l k m hm (h k (by omega))
    unfold pairsB
    rw [List.length_append, Nat.succ_mul]
    omega
theorem startsN_lt (e : Nat) (l : List Pr) (N : Nat) : ∀ k, (∀ j, j < k → (pairsB e l j).length < N) → ∀ x ∈ startsN e l k, x < N
  | 0, _, x, hx => by simp [startsN] at hx
  | k + 1, h, x, hx => by
    unfold startsN at hx
    split at hx
    · rw [List.mem_append, List.mem_singleton] at hx
      rcases hx with hx | hx
      · exact startsN_lt e l N k (fun j hj => h j (by omega)) x hx
      · rw [hx]; exact h k (by omega)
    · exact startsN_lt e l N k (fun j hj => h j (by omega)) x hx
end Go.Proofs.Ytiacdakaolghmaa
