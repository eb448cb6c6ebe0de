/-
  Plain mathematics of layer 9: a record's frame, what frames bytes begin with. No program is named.
-/
import Derived.Test.YtcekgalppbfnhaaDoorNum
import Derived.Test.YtcekgalppbfnhaaDoorSumK
namespace Go.Proofs.YtcekgalppbfnhaaDoor
set_option linter.unusedVariables false

/-- The mask of the sum of some bytes. -/
def sumW (l : List UInt8) : Int := mk ((Crc.of l).toNat : Int)
def wordL (c : Int) : List UInt8 := [byteOf (c / 16777216), byteOf (c / 65536 % 256), byteOf (c / 256 % 256), byteOf (c % 256)]
theorem wordL_length (c : Int) : (wordL c).length = 4 := rfl
theorem sumW_range (l : List UInt8) : 0 ≤ sumW l ∧ sumW l < 4294967296 := by unfold sumW mk; omega
def bodyL (b : List UInt8) : List UInt8 := enc b.length ++ b
def frameL (b : List UInt8) : List UInt8 := wordL (sumW (bodyL b)) ++ bodyL b
def sizeL (n : Nat) : Nat := 4 + (enc n).length + n
theorem frameL_length (b : List UInt8) : (frameL b).length = sizeL b.length := by
  unfold frameL bodyL sizeL
  rw [List.length_append, List.length_append, wordL_length]
  omega
theorem sizeL_pos (n : Nat) : 5 + n ≤ sizeL n := by
  have := enc_pos n
  unfold sizeL
  omega
theorem sizeL_le {n : Nat} (h : n < 9223372036854775808) : sizeL n ≤ 13 + n := by
  have := enc_len9 h
  unfold sizeL
  omega
theorem enc_len_mono' : ∀ (n m : Nat), n ≤ m → (enc n).length ≤ (enc m).length := by
  intro n
  induction n using Nat.strongRecOn with
  | _ n ih =>
    intro m h
    by_cases h1 : n < 128
    · rw [enc_len_small h1]
      exact enc_pos m
    · rw [enc_len_big (by omega), enc_len_big (show 128 ≤ m by omega)]
      have := ih (n / 128) (by omega) (m / 128) (by omega)
      omega
theorem enc_len_mono {n m : Nat} (h : n ≤ m) : (enc n).length ≤ (enc m).length := enc_len_mono' n m h
theorem sizeL_inj {n m : Nat} (h : sizeL n = sizeL m) : n = m := by
  rcases Nat.lt_trichotomy n m with h1 | h1 | h1
  · have := enc_len_mono (Nat.le_of_lt h1)
    unfold sizeL at h
    omega
  · exact h1
  · have := enc_len_mono (Nat.le_of_lt h1)
    unfold sizeL at h
    omega
theorem sizeL_mono {n m : Nat} (h : n ≤ m) : sizeL n ≤ sizeL m := by
  have := enc_len_mono h
  unfold sizeL
  omega
/-- What is read as a number has just that number's bytes. -/
theorem dec_take : ∀ (f i : Nat) (l : List UInt8) (n k : Nat), dec f i l = some (n, k) → (0 < i → 0 < n) ∧ l.take k = enc n := by
  intro f
  induction f with
  | zero => intro _ _ _ _ h; simp [dec] at h
  | succ f ih =>
    intro i l n k h
    cases l with
    | nil => simp [dec_nil] at h
    | cons c r =>
      rw [dec_cons] at h
      split at h
      · split at h
        · cases h
        · rename_i h1 h2
          simp only [Option.some.injEq, Prod.mk.injEq] at h
          obtain ⟨rfl, rfl⟩ := h
          refine ⟨fun hi => by omega, ?_⟩
          rw [enc_small h1]
          simp
      · rename_i h1
        cases hd : dec f (i + 1) r with
        | none => rw [hd] at h; cases h
        | some p =>
          rw [hd] at h
          simp only [Option.map_some, Option.some.injEq, Prod.mk.injEq] at h
          obtain ⟨rfl, rfl⟩ := h
          obtain ⟨a1, a2⟩ := ih (i + 1) r p.1 p.2 hd
          have a1 := a1 (by omega)
          have hc := c.toNat_lt
          refine ⟨fun _ => by omega, ?_⟩
          rw [enc_big (by omega), List.take_succ_cons, a2, show (c.toNat - 128 + 128 * p.1) / 128 = p.1 by omega, show (c.toNat - 128 + 128 * p.1) % 128 + 128 = c.toNat by omega]
          simp

/-- ONE FRAME AT THE HEAD: its record, and how many bytes it has. -/
def headF (l : List UInt8) : Option (List UInt8 × Nat) :=
  match dec 9 0 (l.drop 4) with
  | none => none
  | some (n, k) => if n ≤ l.length - (4 + k) ∧ l.take 4 = wordL (sumW ((l.drop 4).take (k + n))) then some ((l.drop (4 + k)).take n, 4 + k + n) else none
theorem headF_none {l : List UInt8} (h : dec 9 0 (l.drop 4) = none) : headF l = none := by
  unfold headF
  rw [h]
theorem headF_some {l : List UInt8} {n k : Nat} (h : dec 9 0 (l.drop 4) = some (n, k)) :
    headF l = if n ≤ l.length - (4 + k) ∧ l.take 4 = wordL (sumW ((l.drop 4).take (k + n))) then some ((l.drop (4 + k)).take n, 4 + k + n) else none := by
  unfold headF
  rw [h]
theorem headF_short {l : List UInt8} (h : l.length < 5) : headF l = none := by
  refine headF_none ?_
  cases hd : dec 9 0 (l.drop 4) with
  | none => rfl
  | some p =>
    obtain ⟨n, k⟩ := p
    have := dec_lt9 _ _ _ hd
    rw [List.length_drop] at this
    omega
/-- The parts of bytes that begin with a number. -/
theorem body_parts {l : List UInt8} {n k : Nat} (h : dec 9 0 (l.drop 4) = some (n, k)) (hn : n ≤ l.length - (4 + k)) :
    4 + k + n ≤ l.length ∧ ((l.drop (4 + k)).take n).length = n ∧ (l.drop 4).take (k + n) = bodyL ((l.drop (4 + k)).take n) ∧ (l.drop 4).take k = enc n := by
  obtain ⟨a1, a2, a3, a4⟩ := dec_lt9 _ _ _ h
  rw [List.length_drop] at a2
  have h1 : ((l.drop (4 + k)).take n).length = n := by rw [List.length_take, List.length_drop]; omega
  have h2 := (dec_take _ _ _ _ _ h).2
  refine ⟨by omega, h1, ?_, h2⟩
  unfold bodyL
  rw [h1, ← h2, List.take_add, List.drop_drop]
theorem headF_is {l x : List UInt8} {t : Nat} (h : headF l = some (x, t)) : t = (frameL x).length ∧ l.take t = frameL x ∧ t ≤ l.length := by
  cases hd : dec 9 0 (l.drop 4) with
  | none => rw [headF_none hd] at h; cases h
  | some p =>
    obtain ⟨n, k⟩ := p
    rw [headF_some hd] at h
    split at h
    · rename_i hc
      obtain ⟨c1, c2⟩ := hc
      simp only [Option.some.injEq, Prod.mk.injEq] at h
      obtain ⟨rfl, rfl⟩ := h
      obtain ⟨b1, b2, b3, b4⟩ := body_parts hd c1
      have hk : (enc n).length = k := by
        rw [← b4, List.length_take, List.length_drop]
        have := dec_lt9 _ _ _ hd
        rw [List.length_drop] at this
        omega
      have e1 : (frameL ((l.drop (4 + k)).take n)).length = 4 + k + n := by
        rw [frameL_length, b2]
        unfold sizeL
        omega
      refine ⟨e1.symm, ?_, b1⟩
      unfold frameL
      rw [← b3, ← c2, show 4 + k + n = 4 + (k + n) by omega, List.take_add]
    · cases h
theorem headF_frame (x r : List UInt8) (h : x.length < 9223372036854775808) : headF (frameL x ++ r) = some (x, (frameL x).length) := by
  have e0 : (frameL x ++ r).drop 4 = enc x.length ++ (x ++ r) := by
    unfold frameL bodyL
    rw [List.append_assoc, List.append_assoc]
    exact List.drop_left' (wordL_length _)
  have hd : dec 9 0 ((frameL x ++ r).drop 4) = some (x.length, (enc x.length).length) := by rw [e0]; exact dec_enc9 _ _ h
  have hl : (frameL x ++ r).length = sizeL x.length + r.length := by rw [List.length_append, frameL_length]
  have e1 : ((frameL x ++ r).drop 4).take ((enc x.length).length + x.length) = bodyL x := by
    rw [e0, ← List.append_assoc]
    exact List.take_left' (by rw [List.length_append])
  have e2 : (frameL x ++ r).take 4 = wordL (sumW (bodyL x)) := by
    unfold frameL
    rw [List.append_assoc]
    exact List.take_left' (wordL_length _)
  have e3 : (frameL x ++ r).drop (4 + (enc x.length).length) = x ++ r := by
    rw [← List.drop_drop, e0]
    exact List.drop_left' rfl
  rw [headF_some hd, if_pos ⟨by rw [hl]; unfold sizeL; omega, by rw [e1, e2]⟩, e3, List.take_left' rfl, frameL_length]
  rfl
theorem headF_cut (x : List UInt8) (h : x.length < 9223372036854775808) (k : Nat) (hk : k < (frameL x).length) : headF ((frameL x).take k) = none := by
  cases hh : headF ((frameL x).take k) with
  | none => rfl
  | some p =>
    obtain ⟨y, t⟩ := p
    obtain ⟨h1, h2, h3⟩ := headF_is hh
    rw [List.length_take] at h3
    have e : frameL x = frameL y ++ (frameL x).drop t := by
      rw [List.take_take, Nat.min_eq_left (by omega)] at h2
      rw [← h2, List.take_append_drop]
    have hy : y.length < 9223372036854775808 := by
      have h4 := frameL_length y
      have h5 := frameL_length x
      have h6 := sizeL_pos y.length
      have h7 := sizeL_le h
      rcases Nat.lt_or_ge y.length 9223372036854775808 with h8 | h8
      · exact h8
      · have h9 := sizeL_mono (Nat.le_trans (Nat.le_of_lt h) h8)
        omega
    have a := headF_frame y ((frameL x).drop t) hy
    rw [← e] at a
    have b := headF_frame x [] h
    rw [List.append_nil] at b
    rw [a] at b
    have := (Prod.mk.inj (Option.some.inj b)).2
    omega
/-- Frames, one behind the other. -/
def framesL : List (List UInt8) → List UInt8
  | [] => []
  | x :: xs => frameL x ++ framesL xs
theorem framesL_append : ∀ (xs ys : List (List UInt8)), framesL (xs ++ ys) = framesL xs ++ framesL ys
  | [], _ => rfl
  | x :: xs, ys => by
    show frameL x ++ framesL (xs ++ ys) = (frameL x ++ framesL xs) ++ framesL ys
    rw [framesL_append xs ys, List.append_assoc]
theorem framesL_snoc (xs : List (List UInt8)) (x : List UInt8) : framesL (xs ++ [x]) = framesL xs ++ frameL x := by
  rw [framesL_append]
  congr 1
  exact List.append_nil _
/-- THE RECORDS of bytes. -/
def Scn (l : List UInt8) (xs : List (List UInt8)) : Prop := ∃ r, l = framesL xs ++ r ∧ headF r = none
theorem Scn.le {l : List UInt8} {xs : List (List UInt8)} (h : Scn l xs) : (framesL xs).length ≤ l.length := by
  obtain ⟨r, rfl, _⟩ := h
  rw [List.length_append]
  omega
theorem Scn.take {l : List UInt8} {xs : List (List UInt8)} (h : Scn l xs) : l.take (framesL xs).length = framesL xs := by
  obtain ⟨r, rfl, _⟩ := h
  exact List.take_left' rfl
theorem framesL_le : ∀ {xs : List (List UInt8)} {x : List UInt8}, x ∈ xs → 5 + x.length ≤ (framesL xs).length
  | [], _, h => by cases h
  | y :: ys, x, h => by
    unfold framesL
    rw [List.length_append]
    rcases List.mem_cons.1 h with rfl | h
    · rw [frameL_length]
      have := sizeL_pos x.length
      omega
    · have := framesL_le h
      omega
theorem framesL_count : ∀ (xs : List (List UInt8)), xs.length * 5 ≤ (framesL xs).length
  | [] => by simp [framesL]
  | y :: ys => by
    unfold framesL
    have := framesL_count ys
    rw [List.length_append, List.length_cons, frameL_length]
    have := sizeL_pos y.length
    omega
theorem Scn.uniq : ∀ {xs ys : List (List UInt8)} {l : List UInt8}, l.length < 9223372036854775808 → Scn l xs → Scn l ys → xs = ys
  | [], [], _, _, _, _ => rfl
  | [], y :: ys, l, hl, ⟨r, e1, h1⟩, ⟨s, e2, h2⟩ => by
    exfalso
    rw [e2] at e1
    have hy : y.length < 9223372036854775808 := by
      have := framesL_le (xs := y :: ys) (List.mem_cons_self ..)
      have : (framesL (y :: ys)).length ≤ l.length := by rw [e2, List.length_append]; omega
      omega
    have e3 : r = frameL y ++ (framesL ys ++ s) := by
      rw [← List.append_assoc]
      exact e1.symm
    rw [e3, headF_frame y _ hy] at h1
    cases h1
  | x :: xs, [], l, hl, ⟨r, e1, h1⟩, ⟨s, e2, h2⟩ => by
    exfalso
    rw [e1] at e2
    have hx : x.length < 9223372036854775808 := by
      have := framesL_le (xs := x :: xs) (List.mem_cons_self ..)
      have : (framesL (x :: xs)).length ≤ l.length := by rw [e1, List.length_append]; omega
      omega
    have e3 : s = frameL x ++ (framesL xs ++ r) := by
      rw [← List.append_assoc]
      exact e2.symm
    rw [e3, headF_frame x _ hx] at h2
    cases h2
  | x :: xs, y :: ys, l, hl, ⟨r, e1, h1⟩, ⟨s, e2, h2⟩ => by
    have hx : x.length < 9223372036854775808 := by
      have := framesL_le (xs := x :: xs) (List.mem_cons_self ..)
      have : (framesL (x :: xs)).length ≤ l.length := by rw [e1, List.length_append]; omega
      omega
    have hy : y.length < 9223372036854775808 := by
      have := framesL_le (xs := y :: ys) (List.mem_cons_self ..)
      have : (framesL (y :: ys)).length ≤ l.length := by rw [e2, List.length_append]; omega
      omega
    have f1 : l = frameL x ++ (framesL xs ++ r) := by rw [← List.append_assoc]; exact e1
    have f2 : l = frameL y ++ (framesL ys ++ s) := by rw [← List.append_assoc]; exact e2
    have a := headF_frame x (framesL xs ++ r) hx
    have b := headF_frame y (framesL ys ++ s) hy
    rw [← f1] at a
    rw [← f2, a] at b
    obtain rfl := (Prod.mk.inj (Option.some.inj b)).1
    have f3 : framesL xs ++ r = framesL ys ++ s := by
      rw [f1] at f2
      exact List.append_cancel_left f2
    have hl2 : (framesL xs ++ r).length < 9223372036854775808 := by
      have := congrArg List.length f1
      rw [List.length_append] at this
      omega
    rw [Scn.uniq hl2 ⟨r, rfl, h1⟩ ⟨s, f3, h2⟩]
/-- They are there. -/
theorem scn_ex : ∀ (k : Nat) (l : List UInt8), l.length ≤ k → ∃ xs, Scn l xs
  | 0, l, h => ⟨[], l, rfl, headF_short (by omega)⟩
  | k + 1, l, h => by
    cases hh : headF l with
    | none => exact ⟨[], l, rfl, hh⟩
    | some p =>
      obtain ⟨x, t⟩ := p
      obtain ⟨h1, h2, h3⟩ := headF_is hh
      have h4 := frameL_length x
      have h5 := sizeL_pos x.length
      obtain ⟨xs, r, e, hr⟩ := scn_ex k (l.drop t) (by rw [List.length_drop]; omega)
      refine ⟨x :: xs, r, ?_, hr⟩
      unfold framesL
      rw [List.append_assoc, ← e, ← h2, List.take_append_drop]
noncomputable def scanL (l : List UInt8) : List (List UInt8) := Classical.choose (scn_ex l.length l (Nat.le_refl _))
theorem scanL_is (l : List UInt8) : Scn l (scanL l) := Classical.choose_spec (scn_ex l.length l (Nat.le_refl _))
theorem scanL_eq {l : List UInt8} {xs : List (List UInt8)} (hl : l.length < 9223372036854775808) (h : Scn l xs) : scanL l = xs := Scn.uniq hl (scanL_is l) h
/-! ### Rounds. -/
theorem scn_step {l : List UInt8} {pre : List (List UInt8)} {x : List UInt8} {t at_ : Nat} (h : l.take at_ = framesL pre) (hat : at_ ≤ l.length) (hh : headF (l.drop at_) = some (x, t)) : l.take (at_ + t) = framesL (pre ++ [x]) ∧ at_ + t ≤ l.length ∧ t = (frameL x).length := by
  obtain ⟨h1, h2, h3⟩ := headF_is hh
  rw [List.length_drop] at h3
  refine ⟨?_, by omega, h1⟩
  rw [List.take_add, h, h2, framesL_snoc]
theorem scn_end {l : List UInt8} {pre : List (List UInt8)} {at_ : Nat} (h : l.take at_ = framesL pre) (hh : headF (l.drop at_) = none) : Scn l pre := ⟨l.drop at_, by rw [← h, List.take_append_drop], hh⟩
end Go.Proofs.YtcekgalppbfnhaaDoor
