/-
  Layer 12: plain mathematics: a block's bytes say its pairs and its number. No program is named.
-/
import Derived.Test.YtiacdakaolghmaaBkN
namespace Go.Proofs.Ytiacdakaolghmaa
set_option linter.unusedVariables false

theorem pow_gt (n : Nat) : n < 128 ^ (n + 1) := by
  induction n with
  | zero => decide
  | succ n ih =>
    rw [Nat.pow_succ]
    omega
theorem enc_free {a b : Nat} {r s : List UInt8} (h : enc a ++ r = enc b ++ s) : a = b ∧ r = s := by
  have ha : a < 128 ^ (a + b + 1) := Nat.lt_of_lt_of_le (pow_gt a) (Nat.pow_le_pow_right (by omega) (by omega))
  have hb : b < 128 ^ (a + b + 1) := Nat.lt_of_lt_of_le (pow_gt b) (Nat.pow_le_pow_right (by omega) (by omega))
  have e1 := dec_enc (a + b + 1) 0 a r ha (by omega) (by omega)
  have e2 := dec_enc (a + b + 1) 0 b s hb (by omega) (by omega)
  rw [h, e2] at e1
  have e3 : b = a := congrArg Prod.fst (Option.some.inj e1)
  subst e3
  exact ⟨rfl, List.append_cancel_left h⟩
theorem u8_inj {a b : Nat} (ha : a < 256) (hb : b < 256) (h : UInt8.ofNat a = UInt8.ofNat b) : a = b := by
  have := congrArg UInt8.toNat h
  rw [toNat_ofNat ha, toNat_ofNat hb] at this
  exact this
theorem word4_inj {a b : Nat} (ha : a < 4294967296) (hb : b < 4294967296) (h : word4 a = word4 b) : a = b := by
  unfold word4 at h
  simp only [List.cons.injEq, and_true] at h
  obtain ⟨h0, h1, h2, h3⟩ := h
  have h0 := u8_inj (by omega) (by omega) h0
  have h1 := u8_inj (by omega) (by omega) h1
  have h2 := u8_inj (by omega) (by omega) h2
  have h3 := u8_inj (by omega) (by omega) h3
  omega
theorem pairB_pos (e : Nat) (l : List Pr) (i : Nat) : 3 ≤ (pairB e l i).length := by
  have h1 := enc_pos (headN e l i)
  have h2 := enc_pos ((l.getD i pr0).key.size - headN e l i)
  have h3 := enc_pos (l.getD i pr0).val.size
  unfold pairB
  simp only [List.length_append]
  omega
theorem pairsB_ge (e : Nat) (l : List Pr) : ∀ k, 3 * k ≤ (pairsB e l k).length
  | 0 => by simp
  | k + 1 => by
    have h1 := pairsB_ge e l k
    have h2 := pairB_pos e l k
    unfold pairsB
    rw [List.length_append]
    omega
/-- The bytes from pair k on, n of them. -/
def restB (e : Nat) (l : List Pr) : Nat → Nat → List UInt8
  | 0, _ => []
  | n + 1, k => pairB e l k ++ restB e l n (k + 1)
theorem pairsB_rest (e : Nat) (l : List Pr) : ∀ n k, pairsB e l (k + n) = pairsB e l k ++ restB e l n k
  | 0, k => by simp [restB]
  | n + 1, k => by
    rw [show k + (n + 1) = (k + 1) + n by omega, pairsB_rest e l n (k + 1)]
    show (pairsB e l k ++ pairB e l k) ++ _ = _
    rw [List.append_assoc]
    rfl
/-- A key, out of the one ahead and of what its bytes say. -/
theorem key_is (e : Nat) (l : List Pr) (i : Nat) (hi : 1 ≤ i ∨ i % e = 0) : bs (l.getD i pr0).key = (bs (l.getD (i - 1) pr0).key).take (headN e l i) ++ (bs (l.getD i pr0).key).drop (headN e l i) := by
  unfold headN
  split
  · simp
  · rw [← shL_take, List.take_append_drop]
theorem bs_inj' {s t : ByteArray} (h : bs s = bs t) : s = t := by
  rcases s with ⟨⟨a⟩⟩
  rcases t with ⟨⟨b⟩⟩
  unfold bs at h
  simp only at h
  rw [h]
theorem pairB_free {e : Nat} {l l' : List Pr} {k : Nat} {r s : List UInt8} (hp : 1 ≤ k → l.getD (k - 1) pr0 = l'.getD (k - 1) pr0) (h : pairB e l k ++ r = pairB e l' k ++ s) : l.getD k pr0 = l'.getD k pr0 ∧ r = s := by
  unfold pairB at h
  simp only [List.append_assoc] at h
  obtain ⟨e1, h⟩ := enc_free h
  obtain ⟨e2, h⟩ := enc_free h
  obtain ⟨e3, h⟩ := enc_free h
  have l1 : ((bs (l.getD k pr0).key).drop (headN e l k)).length = ((bs (l'.getD k pr0).key).drop (headN e l' k)).length := by
    rw [List.length_drop, List.length_drop, bs_length, bs_length]
    exact e2
  obtain ⟨e4, h⟩ := List.append_inj h l1
  obtain ⟨e5, h⟩ := List.append_inj h (by rw [bs_length, bs_length]; exact e3)
  refine ⟨?_, h⟩
  have hk : bs (l.getD k pr0).key = bs (l'.getD k pr0).key := by
    rcases Nat.eq_zero_or_pos k with h0 | h0
    · have z : ∀ m : List Pr, headN e m k = 0 := fun m => by unfold headN; rw [h0, Nat.zero_mod, if_pos rfl]
      rw [z, z] at e4
      simpa using e4
    · rw [key_is e l k (.inl h0), key_is e l' k (.inl h0), e4, e1, hp h0]
  have h1 : (l.getD k pr0).key = (l'.getD k pr0).key := bs_inj' hk
  have h2 : (l.getD k pr0).val = (l'.getD k pr0).val := bs_inj' e5
  cases hx : l.getD k pr0
  cases hy : l'.getD k pr0
  rw [hx, hy] at h1 h2
  simp only at h1 h2
  rw [h1, h2]
theorem rest_free {e : Nat} {l l' : List Pr} : ∀ (n n' k : Nat), (∀ j, j < k → l.getD j pr0 = l'.getD j pr0) → restB e l n k = restB e l' n' k → n = n' ∧ ∀ j, j < k + n → l.getD j pr0 = l'.getD j pr0
  | 0, 0, k, hp, _ => ⟨rfl, hp⟩
  | 0, n' + 1, k, hp, h => by
    have := congrArg List.length h
    have z := pairB_pos e l' k
    unfold restB at this
    simp only [List.length_append, List.length_nil] at this
    omega
  | n + 1, 0, k, hp, h => by
    have := congrArg List.length h
    have z := pairB_pos e l k
    unfold restB at this
    simp only [List.length_append, List.length_nil] at this
    omega
  | n + 1, n' + 1, k, hp, h => by
    obtain ⟨h1, h2⟩ := pairB_free (fun hk => hp (k - 1) (by omega)) h
    obtain ⟨h3, h4⟩ := rest_free n n' (k + 1) (fun j hj => by
      rcases Nat.lt_or_ge j k with h' | h'
      · exact hp j h'
      · obtain rfl : j = k := by omega
        exact h1) h2
    exact ⟨by omega, fun j hj => h4 j (by omega)⟩
theorem pairsB_inj {e : Nat} {l l' : List Pr} (h : pairsB e l l.length = pairsB e l' l'.length) : l = l' := by
  have e1 := pairsB_rest e l l.length 0
  have e2 := pairsB_rest e l' l'.length 0
  rw [Nat.zero_add] at e1 e2
  rw [e1, e2] at h
  obtain ⟨h1, h2⟩ := rest_free l.length l'.length 0 (fun j hj => absurd hj (Nat.not_lt_zero j)) (List.append_cancel_left h)
  refine List.ext_getElem h1 fun i a b => ?_
  have := h2 i (by omega)
  rw [getD_pr l i a, getD_pr l' i b] at this
  exact this
theorem pairB_ge (e : Nat) (l : List Pr) (i : Nat) : (l.getD i pr0).key.size - headN e l i + (l.getD i pr0).val.size ≤ (pairB e l i).length := by
  unfold pairB
  simp only [List.length_append, List.length_drop, bs_length]
  omega
theorem key_len (e : Nat) (l : List Pr) : ∀ i, (l.getD i pr0).key.size ≤ (pairsB e l (i + 1)).length ∧ (l.getD i pr0).val.size ≤ (pairsB e l (i + 1)).length := fun i => by
  have h1 := pairB_ge e l i
  have e1 : (pairsB e l (i + 1)).length = (pairsB e l i).length + (pairB e l i).length := by
    show (pairsB e l i ++ pairB e l i).length = _
    rw [List.length_append]
  rw [e1]
  rcases Nat.eq_zero_or_pos i with h0 | h0
  · have h2 : headN e l i = 0 := by unfold headN; rw [h0, Nat.zero_mod, if_pos rfl]
    omega
  · have h2 : headN e l i ≤ (pairsB e l i).length := by
      obtain ⟨j, rfl⟩ : ∃ j, i = j + 1 := ⟨i - 1, by omega⟩
      have h3 := (key_len e l j).1
      unfold headN
      split
      · omega
      · have := (shL_le (bs (l.getD (j + 1) pr0).key) (bs (l.getD (j + 1 - 1) pr0).key)).2
        rw [bs_length, Nat.add_sub_cancel] at this
        rw [Nat.add_sub_cancel]
        omega
    omega
theorem blockB_len (e : Nat) (l : List Pr) : (blockB e l).length = (pairsB e l l.length).length + 4 * (startsN e l l.length).length + 5 := by
  unfold blockB
  simp only [List.length_append, wordsB_len, word4_len, List.length_singleton]
theorem blockB_small {e : Nat} {l : List Pr} (h : Low 300 l) (hl : l.length ≤ 80) : (blockB e l).length ≤ 60000 := by
  have h1 := pairsB_len e l 300 (by omega) h l.length (Nat.le_refl _)
  have h2 := startsN_len e l l.length
  have h3 : l.length * (27 + 2 * 300) ≤ 80 * (27 + 2 * 300) := Nat.mul_le_mul_right _ hl
  rw [blockB_len]
  omega
/-- A BLOCK'S BYTES SAY ITS PAIRS AND ITS NUMBER. -/
theorem blockB_inj {e e' : Nat} {l l' : List Pr} (he : e ≤ 64) (he' : e' ≤ 64) (hl : (blockB e l).length ≤ 100000) (h : blockB e' l' = blockB e l) : e' = e ∧ l' = l := by
  have hlen := congrArg List.length h
  have hl' : (blockB e' l').length ≤ 100000 := by omega
  have g := pairsB_ge e l l.length
  have g' := pairsB_ge e' l' l'.length
  have b := blockB_len e l
  have b' := blockB_len e' l'
  unfold blockB at h
  obtain ⟨h1, h2⟩ := List.append_inj' h rfl
  simp only [List.cons.injEq, and_true] at h2
  have h2 := u8_inj (by omega) (by omega) h2
  subst h2
  refine ⟨rfl, ?_⟩
  obtain ⟨h3, h4⟩ := List.append_inj' h1 rfl
  have s := startsN_len e' l l.length
  have s' := startsN_len e' l' l'.length
  have h4 := word4_inj (by omega) (by omega) h4
  obtain ⟨h5, h6⟩ := List.append_inj' h3 (by rw [wordsB_len, wordsB_len, h4])
  exact pairsB_inj h5
end Go.Proofs.Ytiacdakaolghmaa
