/-
  Texts of layer 13 and of what it stands on, one behind the other.
-/
import Derived.Test.YtlobnbbndkhcbaaGreatDoorMg07

/- Layer 12, the program's own: plain mathematics of its reading: a pair that bytes begin with, all of them. No program is named. -/
namespace Go.Proofs.YtlobnbbndkhcbaaGreatDoor
set_option linter.unusedVariables false

def emp : ByteArray := ⟨#[]⟩
theorem bs_extract (s : ByteArray) (i j : Nat) : bs (s.extract i j) = ((bs s).drop i).take (j - i) := by
  unfold bs
  rw [ByteArray.data_extract, Array.toList_extract, List.extract_eq_take_drop]
theorem bs_app (s t : ByteArray) : bs (s ++ t) = bs s ++ bs t := by
  unfold bs
  rw [ByteArray.data_append, Array.toList_append]
theorem size_extract (s : ByteArray) (i j : Nat) (h : j ≤ s.size) : (s.extract i j).size = j - i := by
  rw [← bs_length, bs_extract, List.length_take, List.length_drop, bs_length]
  omega
theorem size_app (s t : ByteArray) : (s ++ t).size = s.size + t.size := by
  rw [← bs_length, bs_app, List.length_append, bs_length, bs_length]
theorem bs_zero {s : ByteArray} (h : s.size = 0) : s = emp := bs_inj' (by
  have : bs s = [] := List.eq_nil_of_length_eq_zero (by rw [bs_length]; exact h)
  rw [this]
  rfl)

/-! ### Three numbers. -/
structure N3 where
  s : Nat
  o : Nat
  v : Nat
  st : St
def nums3 (b : List UInt8) : N3 := ⟨(numS (b, false)).1, (numS (numS (b, false)).2).1, (numS (numS (numS (b, false)).2).2).1, (numS (numS (numS (b, false)).2).2).2⟩
theorem numS_ok {st st' : St} {n : Nat} (h : numS st = (n, st')) (hb : st'.2 = false) : st.2 = false ∧ st'.1.length + 1 ≤ st.1.length ∧ n < 9223372036854775808 := by
  obtain ⟨l, b⟩ := st
  cases b with
  | true => rw [numS_bad] at h; cases h; simp at hb
  | false =>
    unfold numS at h
    simp only [Bool.false_eq_true, if_false] at h
    split at h
    · cases h; simp at hb
    · rename_i n' k hd
      obtain ⟨h1, h2, h3, h4⟩ := dec_lt9 _ _ _ hd
      cases h
      refine ⟨rfl, ?_, h4⟩
      simp only [List.length_drop]
      omega
theorem numS_le (st : St) : (numS st).2.1.length ≤ st.1.length ∧ (numS st).1 < 9223372036854775808 := by
  unfold numS
  split
  · exact ⟨Nat.le_refl _, by omega⟩
  · split
    · exact ⟨Nat.le_refl _, by omega⟩
    · rename_i n k hd
      refine ⟨?_, (dec_lt9 _ _ _ hd).2.2.2⟩
      simp only [List.length_drop]
      omega
theorem nums3_le (b : List UInt8) : (nums3 b).st.1.length ≤ b.length ∧ (nums3 b).s < 9223372036854775808 ∧ (nums3 b).o < 9223372036854775808 ∧ (nums3 b).v < 9223372036854775808 := by
  have h1 := numS_le (b, false)
  have h2 := numS_le (numS (b, false)).2
  have h3 := numS_le (numS (numS (b, false)).2).2
  unfold nums3
  simp only at h1 ⊢
  exact ⟨by omega, h1.2, h2.2, h3.2⟩
theorem nums3_ok {b : List UInt8} (h : (nums3 b).st.2 = false) : (nums3 b).st.1.length + 3 ≤ b.length := by
  have h : (numS (numS (numS (b, false)).2).2).2.2 = false := h
  show (numS (numS (numS (b, false)).2).2).2.1.length + 3 ≤ b.length
  generalize e3 : numS (numS (numS (b, false)).2).2 = r3 at h ⊢
  obtain ⟨n3, s3⟩ := r3
  obtain ⟨k3, g3, _⟩ := numS_ok e3 h
  generalize e2 : numS (numS (b, false)).2 = r2 at k3 g3
  obtain ⟨n2, s2⟩ := r2
  obtain ⟨k2, g2, _⟩ := numS_ok e2 k3
  generalize e1 : numS (b, false) = r1 at k2 g2
  obtain ⟨n1, s1⟩ := r1
  obtain ⟨k1, g1, _⟩ := numS_ok e1 k2
  simp only at g1 g2 g3 ⊢
  omega
theorem nums3_enc (x y z : Nat) (r : List UInt8) (hx : x < 9223372036854775808) (hy : y < 9223372036854775808) (hz : z < 9223372036854775808) : nums3 (enc x ++ (enc y ++ (enc z ++ r))) = ⟨x, y, z, (r, false)⟩ := by
  unfold nums3
  rw [numS_enc x _ hx]
  simp only
  rw [numS_enc y _ hy]
  simp only
  rw [numS_enc z _ hz]

/-! ### The pair that bytes begin with. -/
def frontB (b : ByteArray) : ByteArray := b.extract 0 (min b.size 27)
def n3 (b : ByteArray) : N3 := nums3 (bs (frontB b))
/-- What stands behind the numbers. -/
def bodyB (b : ByteArray) : ByteArray := b.extract ((frontB b).size - (n3 b).st.1.length) b.size
def badN (b ah : ByteArray) : Prop := (n3 b).st.2 = true ∨ ah.size < (n3 b).s ∨ (bodyB b).size < (n3 b).o ∨ (bodyB b).size - (n3 b).o < (n3 b).v
instance (b ah : ByteArray) : Decidable (badN b ah) := by unfold badN; infer_instance
def pairN (b ah : ByteArray) : Pr := ⟨ah.extract 0 (n3 b).s ++ (bodyB b).extract 0 (n3 b).o, (bodyB b).extract (n3 b).o ((n3 b).o + (n3 b).v)⟩
def restN (b : ByteArray) : ByteArray := (bodyB b).extract ((n3 b).o + (n3 b).v) (bodyB b).size
def nextR (b ah : ByteArray) : Option (Pr × ByteArray) := if badN b ah then none else some (pairN b ah, restN b)
theorem frontB_size (b : ByteArray) : (frontB b).size = min b.size 27 := by
  unfold frontB
  rw [size_extract _ _ _ (by omega)]
  omega
theorem n3_le (b : ByteArray) : (n3 b).st.1.length ≤ (frontB b).size ∧ (n3 b).s < 9223372036854775808 ∧ (n3 b).o < 9223372036854775808 ∧ (n3 b).v < 9223372036854775808 := by
  have := nums3_le (bs (frontB b))
  rw [bs_length] at this
  exact this
theorem bodyB_size (b : ByteArray) : (bodyB b).size = b.size - ((frontB b).size - (n3 b).st.1.length) := by
  unfold bodyB
  rw [size_extract _ _ _ (Nat.le_refl _)]
theorem next_sizes {b ah : ByteArray} {p : Pr} {r : ByteArray} (h : nextR b ah = some (p, r)) : r.size + 3 ≤ b.size ∧ p.key.size + r.size ≤ ah.size + b.size ∧ p.key.size ≤ ah.size + b.size ∧ p.val.size ≤ b.size := by
  unfold nextR at h
  split at h
  · cases h
  · rename_i hb
    unfold badN at hb
    simp only [not_or, Bool.not_eq_true, Nat.not_lt] at hb
    obtain ⟨h1, h2, h3, h4⟩ := hb
    have h5 := nums3_ok (b := bs (frontB b)) h1
    have e : nums3 (bs (frontB b)) = n3 b := rfl
    rw [bs_length, frontB_size, e] at h5
    have h6 := bodyB_size b
    rw [frontB_size] at h6
    obtain ⟨rfl, rfl⟩ := Prod.mk.inj (Option.some.inj h)
    have z1 : (pairN b ah).key.size = (n3 b).s + (n3 b).o := by
      unfold pairN
      simp only
      rw [size_app, size_extract _ _ _ h2, size_extract _ _ _ h3]
      omega
    have z2 : (pairN b ah).val.size = (n3 b).v := by
      unfold pairN
      simp only
      rw [size_extract _ _ _ (by omega)]
      omega
    have z3 : (restN b).size = (bodyB b).size - ((n3 b).o + (n3 b).v) := by
      unfold restN
      rw [size_extract _ _ _ (Nat.le_refl _)]
    rw [z1, z2, z3]
    omega
/-- A right pair is read as it stands. -/
theorem next_pair {e : Nat} {l : List Pr} {k : Nat} {b ah : ByteArray} {R : List UInt8} (hb : bs b = pairB e l k ++ R) (hz : b.size < 9223372036854775808) (hl : (l.getD k pr0).key.size < 9223372036854775808) (hah : if k % e = 0 then True else 1 ≤ k ∧ ah = (l.getD (k - 1) pr0).key) :
    ∃ r, nextR b ah = some (l.getD k pr0, r) ∧ bs r = R := by
  have hh := headN_le e l k
  obtain ⟨x, hx⟩ : ∃ x, l.getD k pr0 = x := ⟨_, rfl⟩
  rw [hx] at hh hl ⊢
  have hbl := congrArg List.length hb
  rw [bs_length] at hbl
  unfold pairB at hb hbl
  rw [hx] at hb hbl
  simp only [List.append_assoc] at hb
  simp only [List.length_append, List.length_drop, bs_length] at hbl
  have hv : x.val.size < 9223372036854775808 := by omega
  have e1 := enc_len9 (show headN e l k < 9223372036854775808 by omega)
  have e2 := enc_len9 (show x.key.size - headN e l k < 9223372036854775808 by omega)
  have e3 := enc_len9 hv
  obtain ⟨A, hA⟩ : ∃ A, A = enc (headN e l k) ++ (enc (x.key.size - headN e l k) ++ enc x.val.size) := ⟨_, rfl⟩
  obtain ⟨B, hB⟩ : ∃ B, B = (bs x.key).drop (headN e l k) ++ (bs x.val ++ R) := ⟨_, rfl⟩
  have hAl : A.length ≤ 27 := by rw [hA]; simp only [List.length_append]; omega
  have hAB : bs b = A ++ B := by rw [hb, hA, hB]; simp only [List.append_assoc]
  have hf : bs (frontB b) = A ++ B.take (27 - A.length) := by
    unfold frontB
    rw [bs_extract, List.drop_zero, Nat.sub_zero, show min b.size 27 = min 27 (bs b).length by rw [bs_length, Nat.min_comm], ← List.take_take, List.take_length, hAB, List.take_append, List.take_of_length_le hAl]
  have hn : n3 b = ⟨headN e l k, x.key.size - headN e l k, x.val.size, (B.take (27 - A.length), false)⟩ := by
    unfold n3
    rw [hf, hA]
    simp only [List.append_assoc]
    exact nums3_enc _ _ _ _ (by omega) (by omega) hv
  have hfl := congrArg List.length hf
  rw [bs_length, List.length_append] at hfl
  have hbody : bs (bodyB b) = B := by
    unfold bodyB
    rw [hn, bs_extract, hfl]
    simp only
    rw [show A.length + (B.take (27 - A.length)).length - (B.take (27 - A.length)).length = A.length by omega, List.take_of_length_le (by rw [List.length_drop, bs_length]; exact Nat.le_refl _), hAB]
    simp
  have hbz : (bodyB b).size = (x.key.size - headN e l k) + (x.val.size + R.length) := by
    rw [← bs_length, hbody, hB]
    simp only [List.length_append, List.length_drop, bs_length]
  have hahs : headN e l k ≤ ah.size ∧ bs x.key = (bs ah).take (headN e l k) ++ (bs x.key).drop (headN e l k) := by
    have ki := key_is e l k
    rw [hx] at ki
    by_cases hk : k % e = 0
    · have : headN e l k = 0 := by unfold headN; rw [if_pos hk]
      rw [this]
      simp
    · rw [if_neg hk] at hah
      obtain ⟨h1, rfl⟩ := hah
      refine ⟨?_, ki (.inl h1)⟩
      unfold headN
      rw [if_neg hk, ← bs_length]
      exact (shL_le _ _).2
  refine ⟨restN b, ?_, ?_⟩
  · unfold nextR
    have hnb : ¬ badN b ah := by
      unfold badN
      rw [hn, hbz]
      simp only [Bool.false_eq_true, false_or, not_or, Nat.not_lt]
      omega
    rw [if_neg hnb]
    · have k1 : (pairN b ah).key = x.key := bs_inj' (by
        unfold pairN
        simp only
        rw [bs_app, bs_extract, bs_extract, hn, hbody]
        simp only [List.drop_zero, Nat.sub_zero]
        have q : ((bs x.key).drop (headN e l k)).take (x.key.size - headN e l k) = (bs x.key).drop (headN e l k) := List.take_of_length_le (by rw [List.length_drop, bs_length]; omega)
        rw [hB, List.take_append_of_le_length (by rw [List.length_drop, bs_length]; omega), q]
        exact hahs.2.symm)
      have k2 : (pairN b ah).val = x.val := bs_inj' (by
        unfold pairN
        simp only
        rw [bs_extract, hn, hbody]
        simp only
        rw [show x.key.size - headN e l k + x.val.size - (x.key.size - headN e l k) = (bs x.val).length by rw [bs_length]; omega, hB, List.drop_append_of_le_length (by rw [List.length_drop, bs_length]; omega), List.drop_drop,
          List.drop_of_length_le (by rw [bs_length]; omega), List.nil_append]
        simp)
      obtain ⟨p, hp⟩ : ∃ p, pairN b ah = p := ⟨_, rfl⟩
      rw [hp] at k1 k2 ⊢
      cases p
      cases x
      simp only at k1 k2
      rw [k1, k2]
  · unfold restN
    rw [bs_extract, hn, hbody, hbz, hB]
    simp only
    rw [show (x.key.size - headN e l k + (x.val.size + R.length)) - (x.key.size - headN e l k + x.val.size) = R.length by omega, ← List.append_assoc, List.drop_append_of_le_length (by simp [bs_length]), List.drop_of_length_le (by simp [bs_length])]
    simp

/-! ### All that is read. -/
def readF (e : Nat) : Nat → Nat → ByteArray → ByteArray → List Pr
  | 0, _, _, _ => []
  | f + 1, i, ah, b => if b.size = 0 then [] else match nextR b (if i % e = 0 then emp else ah) with
    | none => []
    | some (p, r) => p :: readF e f (i + 1) p.key r
theorem readF_fuel (e : Nat) : ∀ (f g i : Nat) (ah b : ByteArray), b.size ≤ f → b.size ≤ g → readF e f i ah b = readF e g i ah b
  | 0, 0, i, ah, b, h1, h2 => rfl
  | 0, g + 1, i, ah, b, h1, h2 => by unfold readF; rw [if_pos (by omega)]
  | f + 1, 0, i, ah, b, h1, h2 => by unfold readF; rw [if_pos (by omega)]
  | f + 1, g + 1, i, ah, b, h1, h2 => by
    unfold readF
    split
    · rfl
    · cases h : nextR b (if i % e = 0 then emp else ah) with
      | none => rfl
      | some q =>
        obtain ⟨p, r⟩ := q
        have := (next_sizes h).1
        simp only
        rw [readF_fuel e f g (i + 1) p.key r (by omega) (by omega)]
/-- What the iterator tells: from its i-th on, behind the key ah. -/
def readR (e i : Nat) (ah b : ByteArray) : List Pr := readF e b.size i ah b
theorem readR_nil (e i : Nat) (ah b : ByteArray) (h : b.size = 0) : readR e i ah b = [] := by
  unfold readR
  rw [h]
  rfl
theorem readR_none {e i : Nat} {ah b : ByteArray} (h : nextR b (if i % e = 0 then emp else ah) = none) : readR e i ah b = [] := by
  unfold readR
  cases hb : b.size with
  | zero => rfl
  | succ n =>
    unfold readF
    rw [if_neg (by omega), h]
theorem readR_some {e i : Nat} {ah b r : ByteArray} {p : Pr} (h : nextR b (if i % e = 0 then emp else ah) = some (p, r)) : readR e i ah b = p :: readR e (i + 1) p.key r := by
  have h1 := (next_sizes h).1
  unfold readR
  cases hb : b.size with
  | zero => omega
  | succ n =>
    rw [readF.eq_2, if_neg (by omega), h]
    simp only
    rw [readF_fuel e n r.size (i + 1) p.key r (by omega) (Nat.le_refl _)]
theorem readF_low (e : Nat) : ∀ (f i : Nat) (ah b : ByteArray), 3 * (readF e f i ah b).length ≤ b.size ∧ ∀ x ∈ readF e f i ah b, x.key.size ≤ ah.size + b.size ∧ x.val.size ≤ b.size
  | 0, i, ah, b => ⟨by simp [readF], by simp [readF]⟩
  | f + 1, i, ah, b => by
    unfold readF
    split
    · exact ⟨by simp, by simp⟩
    · split
      · exact ⟨by simp, by simp⟩
      · rename_i p r h
        obtain ⟨h1, h2, h3, h4⟩ := next_sizes h
        obtain ⟨g1, g2⟩ := readF_low e f (i + 1) p.key r
        have hah : (if i % e = 0 then emp else ah).size ≤ ah.size := by
          split
          · exact Nat.zero_le _
          · exact Nat.le_refl _
        refine ⟨by rw [List.length_cons]; omega, fun x hx => ?_⟩
        rcases List.mem_cons.1 hx with rfl | hx
        · omega
        · have := g2 x hx
          omega
theorem readR_low (e : Nat) (b : ByteArray) : 3 * (readR e 0 emp b).length ≤ b.size ∧ Low b.size (readR e 0 emp b) := by
  obtain ⟨h1, h2⟩ := readF_low e b.size 0 emp b
  refine ⟨h1, fun i hi => ?_⟩
  have h3 := h2 ((readR e 0 emp b).getD i pr0) (getD_memPr _ i hi)
  rw [show emp.size = 0 from rfl, Nat.zero_add] at h3
  exact h3
/-- Right pairs' bytes are read as those pairs. -/
theorem readR_rest {e : Nat} {l : List Pr} (hl : ∀ i, i < l.length → (l.getD i pr0).key.size < 9223372036854775808) : ∀ (n k i : Nat) (ah b : ByteArray), k + n = l.length → i % e = k % e → bs b = restB e l n k → b.size < 9223372036854775808 →
    (k % e = 0 ∨ (1 ≤ k ∧ ah = (l.getD (k - 1) pr0).key)) → readR e i ah b = l.drop k
  | 0, k, i, ah, b, hk, hi, hb, hz, hah => by
    rw [readR_nil _ _ _ _ (by rw [← bs_length, hb]; rfl), List.drop_of_length_le (by omega)]
  | n + 1, k, i, ah, b, hk, hi, hb, hz, hah => by
    have hb : bs b = pairB e l k ++ restB e l n (k + 1) := hb
    obtain ⟨r, h1, h2⟩ := next_pair (ah := if i % e = 0 then emp else ah) hb hz (hl k (by omega)) (by
      by_cases h : k % e = 0
      · rw [if_pos h]; trivial
      · rw [if_neg h, if_neg (by rw [hi]; exact h)]
        exact hah.resolve_left h)
    have h3 := (next_sizes h1).1
    rw [readR_some h1, readR_rest hl n (k + 1) (i + 1) (l.getD k pr0).key r (by omega) (by rw [Nat.add_mod, hi, ← Nat.add_mod]) h2 (by omega) (.inr ⟨by omega, rfl⟩)]
    rw [List.drop_eq_getElem_cons (show k < l.length by omega), getD_pr l k (by omega)]
theorem readR_all {e : Nat} {l : List Pr} {b : ByteArray} (hl : ∀ i, i < l.length → (l.getD i pr0).key.size < 9223372036854775808) (hb : bs b = pairsB e l l.length) (hz : b.size < 9223372036854775808) : readR e 0 emp b = l := by
  have h1 := pairsB_rest e l l.length 0
  rw [Nat.zero_add] at h1
  have h2 : pairsB e l 0 = [] := rfl
  rw [h2, List.nil_append] at h1
  rw [h1] at hb
  have := readR_rest hl l.length 0 0 emp b (by omega) rfl hb hz (.inl (Nat.zero_mod _))
  rw [this, List.drop_zero]
/-- From a restart on. -/
theorem readR_from {e : Nat} {l : List Pr} {b : ByteArray} {k : Nat} (hl : ∀ i, i < l.length → (l.getD i pr0).key.size < 9223372036854775808) (hk : k ≤ l.length) (he : k % e = 0) (hb : bs b = pairsB e l l.length) (hz : b.size < 9223372036854775808) :
    readR e 0 emp (b.extract (pairsB e l k).length b.size) = l.drop k := by
  have h1 := pairsB_rest e l (l.length - k) k
  rw [show k + (l.length - k) = l.length by omega] at h1
  have h2 : bs (b.extract (pairsB e l k).length b.size) = restB e l (l.length - k) k := by
    rw [bs_extract, hb, h1]
    rw [List.drop_append_of_le_length (Nat.le_refl _), List.drop_length, List.nil_append, List.take_of_length_le]
    have := congrArg List.length h1
    rw [← hb, bs_length, List.length_append] at this
    omega
  refine readR_rest hl (l.length - k) k 0 emp _ (by omega) (by rw [Nat.zero_mod, he]) h2 ?_ (.inl he)
  rw [size_extract _ _ _ (Nat.le_refl _)]
  omega

/-! ### Places of restarts. -/
theorem startsN_is (e : Nat) (he : 1 ≤ e) (l : List Pr) : ∀ k, startsN e l k = (List.range ((k + e - 1) / e)).map fun r => (pairsB e l (r * e)).length
  | 0 => by
    have : (0 + e - 1) / e = 0 := Nat.div_eq_of_lt (by omega)
    rw [this]
    rfl
  | k + 1 => by
    unfold startsN
    rw [startsN_is e he l k]
    have hdm := Nat.div_add_mod k e
    have hml := Nat.mod_lt k (show 0 < e by omega)
    by_cases h : k % e = 0
    · rw [if_pos h]
      obtain ⟨q, hq⟩ : ∃ q, k / e = q := ⟨_, rfl⟩
      rw [h, hq, Nat.add_zero] at hdm
      have e1 : (k + e - 1) / e = q := by
        rw [← hdm, show e * q + e - 1 = (e - 1) + e * q by omega, Nat.add_mul_div_left _ _ (by omega), Nat.div_eq_of_lt (by omega), Nat.zero_add]
      have e2 : (k + 1 + e - 1) / e = q + 1 := by
        rw [← hdm, show e * q + 1 + e - 1 = 0 + e * (q + 1) by rw [Nat.mul_succ]; omega, Nat.add_mul_div_left _ _ (by omega), Nat.zero_div, Nat.zero_add]
      rw [e1, e2, List.range_succ, List.map_append, List.map_singleton, Nat.mul_comm q e, hdm]
    · rw [if_neg h]
      congr 2
      obtain ⟨q, hq⟩ : ∃ q, k / e = q := ⟨_, rfl⟩
      obtain ⟨m, hm⟩ : ∃ m, k % e = m := ⟨_, rfl⟩
      rw [hq, hm] at hdm
      rw [hm] at h hml
      have e1 : (k + e - 1) / e = q + 1 := by
        rw [← hdm, show e * q + m + e - 1 = (m - 1) + e * (q + 1) by rw [Nat.mul_succ]; omega, Nat.add_mul_div_left _ _ (by omega), Nat.div_eq_of_lt (by omega), Nat.zero_add]
      have e2 : (k + 1 + e - 1) / e = q + 1 := by
        rw [← hdm, show e * q + m + 1 + e - 1 = m + e * (q + 1) by rw [Nat.mul_succ]; omega, Nat.add_mul_div_left _ _ (by omega), Nat.div_eq_of_lt (by omega), Nat.zero_add]
      rw [e1, e2]
theorem startsN_get (e : Nat) (he : 1 ≤ e) (l : List Pr) (r : Nat) (hr : r < (startsN e l l.length).length) : (startsN e l l.length).getD r 0 = (pairsB e l (r * e)).length ∧ r * e < l.length := by
  rw [startsN_is e he l l.length] at hr ⊢
  rw [List.length_map, List.length_range] at hr
  constructor
  · simp [List.getD, hr]
  · have h1 : (r + 1) * e ≤ l.length + e - 1 := (Nat.le_div_iff_mul_le (by omega)).1 hr
    rw [Nat.succ_mul] at h1
    omega
theorem startsN_count (e : Nat) (he : 1 ≤ e) (l : List Pr) (i : Nat) (hi : i < l.length) : i / e < (startsN e l l.length).length := by
  rw [startsN_is e he l l.length, List.length_map, List.length_range]
  have h1 : (i / e + 1) * e ≤ l.length + e - 1 := by
    have := Nat.div_mul_le_self i e
    rw [Nat.succ_mul]
    omega
  exact (Nat.le_div_iff_mul_le (by omega)).2 h1
/-! ### Texts, as the program compares them. -/
theorem less_cmp : ∀ (x y : List UInt8), Op.bytesLess x y = decide (cmpB x y < 0)
  | [], [] => by simp [Op.bytesLess, Lib.compareBytes]
  | [], _ :: _ => by simp [Op.bytesLess, Lib.compareBytes]
  | _ :: _, [] => by simp [Op.bytesLess, Lib.compareBytes]
  | a :: x, b :: y => by
    show (decide (a < b) || (a == b && Op.bytesLess x y)) = _
    rw [less_cmp x y]
    rcases u8_three a b with h | h | h
    · rw [cmpB_lt h]
      simp [h]
    · rw [cmpB_gt h]
      have h1 : ¬ a < b := fun h' => UInt8.lt_irrefl _ (UInt8.lt_trans h h')
      have h2 : ¬ a = b := fun e => by subst e; exact UInt8.lt_irrefl _ h
      simp [h1, h2]
    · subst h
      rw [cmpB_same]
      simp [UInt8.lt_irrefl]
theorem toList_bs (s : ByteArray) : s.toList = bs s := by
  rw [ByteArray.toList_eq]
  rfl
theorem geq_str (a b : ByteArray) : (!(Op.bytesLess a.toList b.toList)) = decide (0 ≤ cmpB (bs a) (bs b)) := by
  rw [less_cmp, toList_bs, toList_bs]
  by_cases h : cmpB (bs a) (bs b) < 0
  · rw [decide_eq_true h, decide_eq_false (by omega)]; rfl
  · rw [decide_eq_false h, decide_eq_true (by omega)]; rfl
theorem leq_str (a b : ByteArray) : (Op.bytesLess a.toList b.toList || a.toList == b.toList) = decide (cmpB (bs a) (bs b) ≤ 0) := by
  rw [less_cmp, toList_bs, toList_bs]
  rcases Int.lt_trichotomy (cmpB (bs a) (bs b)) 0 with h | h | h
  · rw [decide_eq_true h, decide_eq_true (by omega)]; rfl
  · rw [decide_eq_false (by omega), decide_eq_true (by omega), cmpB_zero _ _ h]; simp
  · rw [decide_eq_false (by omega), decide_eq_false (by omega)]
    have : bs a ≠ bs b := fun e => by rw [e, cmpB_self] at h; omega
    simp [this]
end Go.Proofs.YtlobnbbndkhcbaaGreatDoor
