/-
  Texts of layer 14 and of what it stands on, one behind the other.
-/
import Derived.Lib.BitFns
import Derived.Lib.ItoaNum
import Derived.Shelf.Small.Bits
import Derived.Shelf.Strconv.Itoa0
import Derived.Test.YtihahckjcedceaaDoorProg

/- Plain mathematics of layer 2: a number's bytes (groups of seven bits, the lowest first), how they are read back, and the states of a reader. No program is named. -/
namespace Go.Proofs.YtihahckjcedceaaDoor

/-- The bytes of a number. -/
def enc (n : Nat) : List UInt8 := if h : n < 128 then [UInt8.ofNat n] else UInt8.ofNat (n % 128 + 128) :: enc (n / 128)
termination_by n
decreasing_by omega

theorem enc_small {n : Nat} (h : n < 128) : enc n = [UInt8.ofNat n] := by rw [enc, dif_pos h]
theorem enc_big {n : Nat} (h : 128 ≤ n) : enc n = UInt8.ofNat (n % 128 + 128) :: enc (n / 128) := by rw [enc, dif_neg (by omega)]
theorem enc_pos (n : Nat) : 0 < (enc n).length := by
  by_cases h : n < 128
  · rw [enc_small h]; simp
  · rw [enc_big (by omega)]; simp
theorem enc_len_small {n : Nat} (h : n < 128) : (enc n).length = 1 := by rw [enc_small h]; rfl
theorem enc_len_big {n : Nat} (h : 128 ≤ n) : (enc n).length = (enc (n / 128)).length + 1 := by rw [enc_big h]; rfl
theorem toNat_ofNat {n : Nat} (h : n < 256) : (UInt8.ofNat n).toNat = n := by
  rw [UInt8.toNat_ofNat']; omega

theorem enc_len_le : ∀ (k n : Nat), n < 128 ^ (k + 1) → (enc n).length ≤ k + 1 := by
  intro k
  induction k with
  | zero => intro n h; rw [enc_len_small (by simpa using h)]; omega
  | succ k ih =>
    intro n h
    by_cases h1 : n < 128
    · rw [enc_len_small h1]; omega
    · rw [enc_len_big (by omega)]
      have := ih (n / 128) (by rw [Nat.pow_succ] at h; omega)
      omega
theorem enc_len_ge : ∀ (k n : Nat), 128 ^ k ≤ n → k + 1 ≤ (enc n).length := by
  intro k
  induction k with
  | zero => intro n _; have := enc_pos n; omega
  | succ k ih =>
    intro n h
    have h1 : 128 ≤ n := Nat.le_trans (by rw [Nat.pow_succ]; exact Nat.le_mul_of_pos_left 128 (Nat.pow_pos (by decide))) h
    rw [enc_len_big h1]
    have := ih (n / 128) (by rw [Nat.pow_succ] at h; omega)
    omega
theorem enc_len9 {n : Nat} (h : n < 9223372036854775808) : (enc n).length ≤ 9 := enc_len_le 8 n (by simpa using h)

/-- How many bits a number has, in groups of seven. -/
theorem enc_bits (n : Nat) (h : n < 9223372036854775808) : (Lib.bitLen (n ||| 1) + 6) / 7 = (enc n).length := by
  have hor : n ≤ n ||| 1 ∧ n ||| 1 ≤ n + 1 := by
    constructor
    · exact Nat.left_le_or
    · have e1 : n = 2 * (n / 2) + n % 2 := by omega
      have e2 : n ||| 1 = 2 * (n / 2) + 1 := by
        apply Nat.eq_of_testBit_eq
        intro i
        cases i with
        | zero => simp
        | succ i =>
          rw [Nat.testBit_or, Nat.testBit_succ, Nat.testBit_succ, Nat.testBit_succ]
          have : (2 * (n / 2) + 1) / 2 = n / 2 := by omega
          rw [this]
          simp
      omega
  have hlt : n ||| 1 < 2 ^ 63 := Nat.or_lt_two_pow (by omega) (by omega)
  have hb : 1 ≤ Lib.bitLen (n ||| 1) ∧ 2 ^ (Lib.bitLen (n ||| 1) - 1) ≤ n ||| 1 ∧ n ||| 1 < 2 ^ Lib.bitLen (n ||| 1) := Lib.bitLenAux_bounds 64 _ (by omega) (by have := Nat.right_le_or (n := n) (m := 1); omega)
  obtain ⟨b1, b2, b3⟩ := hb
  obtain ⟨L, hL⟩ : ∃ L, (enc n).length = L + 1 := ⟨(enc n).length - 1, by have := enc_pos n; omega⟩
  obtain ⟨b, hb⟩ : ∃ b, Lib.bitLen (n ||| 1) = b + 1 := ⟨Lib.bitLen (n ||| 1) - 1, by omega⟩
  rw [hb] at b2 b3
  rw [hb, hL]
  simp only [Nat.add_sub_cancel] at b2
  have hup : n ||| 1 < 128 ^ (L + 1) := by
    rcases Nat.lt_or_ge n (128 ^ (L + 1)) with h1 | h1
    · have e : (128 : Nat) ^ (L + 1) = 2 ^ (7 * (L + 1)) := by rw [Nat.pow_mul]
      rw [e] at h1 ⊢
      exact Nat.or_lt_two_pow h1 (Nat.one_lt_two_pow (by omega))
    · have := enc_len_ge (L + 1) n h1; omega
  have hlo : L = 0 ∨ 128 ^ L ≤ n ||| 1 := by
    rcases Nat.eq_zero_or_pos L with h0 | h0
    · exact .inl h0
    · refine .inr (Nat.le_trans ?_ hor.1)
      rcases Nat.lt_or_ge n (128 ^ L) with h1 | h1
      · have := enc_len_le (L - 1) n (by rwa [Nat.sub_add_cancel h0]); omega
      · exact h1
  have u1 : b < 7 * (L + 1) := by
    rcases Nat.lt_or_ge b (7 * (L + 1)) with h1 | h1
    · exact h1
    · have := Nat.pow_le_pow_right (show 0 < 2 by decide) h1
      rw [Nat.pow_mul] at this
      have e : (2 ^ 7) ^ (L + 1) = 128 ^ (L + 1) := rfl
      omega
  have u2 : 7 * L ≤ b := by
    rcases hlo with h0 | h0
    · omega
    · rcases Nat.lt_or_ge b (7 * L) with h1 | h1
      · have := Nat.pow_le_pow_right (show 0 < 2 by decide) (show b + 1 ≤ 7 * L by omega)
        rw [Nat.pow_mul (m := 7)] at this
        have e : (2 ^ 7) ^ L = 128 ^ L := rfl
        omega
      · exact h1
  omega

/-- A number read: f groups at most, the first at place i; its value and how many bytes. -/
def dec : Nat → Nat → List UInt8 → Option (Nat × Nat)
  | 0, _, _ => none
  | _ + 1, _, [] => none
  | f + 1, i, c :: r => if c.toNat < 128 then (if c.toNat = 0 ∧ 0 < i then none else some (c.toNat, 1)) else (dec f (i + 1) r).map fun p => (c.toNat - 128 + 128 * p.1, p.2 + 1)

theorem dec_nil (f i : Nat) : dec f i [] = none := by cases f <;> rfl
theorem dec_cons (f i : Nat) (c : UInt8) (r : List UInt8) : dec (f + 1) i (c :: r) = if c.toNat < 128 then (if c.toNat = 0 ∧ 0 < i then none else some (c.toNat, 1)) else (dec f (i + 1) r).map fun p => (c.toNat - 128 + 128 * p.1, p.2 + 1) := rfl
theorem dec_enc : ∀ (f i n : Nat) (r : List UInt8), n < 128 ^ f → 0 < f → (0 < i → 0 < n) → dec f i (enc n ++ r) = some (n, (enc n).length) := by
  intro f
  induction f with
  | zero => intro _ _ _ _ h; omega
  | succ f ih =>
    intro i n r hn _ hi
    by_cases h1 : n < 128
    · rw [enc_small h1, List.singleton_append, dec_cons, toNat_ofNat (by omega), if_pos h1, if_neg (by omega)]
      rfl
    · have hf : 0 < f := by
        rcases Nat.eq_zero_or_pos f with h0 | h0
        · subst h0; omega
        · exact h0
      rw [enc_big (by omega), List.cons_append, dec_cons, toNat_ofNat (by omega), if_neg (by omega), ih (i + 1) (n / 128) r (by rw [Nat.pow_succ] at hn; omega) hf (by omega)]
      simp only [Option.map_some, List.length_cons, Option.some.injEq, Prod.mk.injEq, and_true]
      omega
theorem dec_enc9 (n : Nat) (r : List UInt8) (h : n < 9223372036854775808) : dec 9 0 (enc n ++ r) = some (n, (enc n).length) := dec_enc 9 0 n r (by simpa using h) (by omega) (by omega)
theorem dec_cut : ∀ (f i n k : Nat), k < (enc n).length → dec f i ((enc n).take k) = none := by
  intro f
  induction f with
  | zero => intros; rfl
  | succ f ih =>
    intro i n k hk
    cases k with
    | zero => rfl
    | succ k =>
      by_cases h1 : n < 128
      · rw [enc_len_small h1] at hk; omega
      · rw [enc_len_big (by omega)] at hk
        rw [enc_big (by omega), List.take_succ_cons, dec_cons, toNat_ofNat (by omega), if_neg (by omega), ih (i + 1) (n / 128) k (by omega)]
        rfl
/-- What is read lies in the bytes; its value has as many groups as are read. -/
theorem dec_le : ∀ (f i : Nat) (l : List UInt8) (n s : Nat), dec f i l = some (n, s) → 1 ≤ s ∧ s ≤ l.length ∧ s ≤ f ∧ n < 128 ^ s := by
  intro f
  induction f with
  | zero => intro _ _ _ _ h; simp [dec] at h
  | succ f ih =>
    intro i l n s h
    cases l with
    | nil => simp [dec_nil] at h
    | cons c r =>
      rw [dec_cons] at h
      split at h
      · split at h
        · cases h
        · rename_i h1 _
          simp only [Option.some.injEq, Prod.mk.injEq] at h
          obtain ⟨rfl, rfl⟩ := h
          refine ⟨by omega, by simp, by omega, by simpa using h1⟩
      · cases hd : dec f (i + 1) r with
        | none => rw [hd] at h; cases h
        | some p =>
          rw [hd] at h
          simp only [Option.map_some, Option.some.injEq, Prod.mk.injEq] at h
          obtain ⟨rfl, rfl⟩ := h
          obtain ⟨a1, a2, a3, a4⟩ := ih (i + 1) r p.1 p.2 hd
          have hc := c.toNat_lt
          refine ⟨by omega, by simp only [List.length_cons]; omega, by omega, ?_⟩
          rw [Nat.pow_succ]
          omega
theorem dec_lt9 (l : List UInt8) (n s : Nat) (h : dec 9 0 l = some (n, s)) : 1 ≤ s ∧ s ≤ l.length ∧ s ≤ 9 ∧ n < 9223372036854775808 := by
  obtain ⟨a1, a2, a3, a4⟩ := dec_le 9 0 l n s h
  refine ⟨a1, a2, a3, Nat.lt_of_lt_of_le a4 ?_⟩
  have := Nat.pow_le_pow_right (show 0 < 128 by decide) a3
  simpa using this
/-- Bytes that all say that more follows, and a last one that says nothing: none. -/
theorem dec_long : ∀ (f i : Nat) (l : List UInt8), (∀ c ∈ l, 128 ≤ c.toNat) → 0 < i + l.length → dec f i (l ++ [0]) = none := by
  intro f
  induction f with
  | zero => intros; rfl
  | succ f ih =>
    intro i l hl hi
    cases l with
    | nil =>
      rw [List.nil_append, dec_cons]
      simp at hi
      simp [hi]
    | cons c r =>
      have hc := hl c (List.mem_cons_self ..)
      rw [List.cons_append, dec_cons, if_neg (by omega), ih (i + 1) r (fun x hx => hl x (List.mem_cons_of_mem _ hx)) (by omega)]
      rfl
/-- All bytes of a number but the last say that more follows; the last doesn't. -/
theorem enc_high : ∀ (k n : Nat), n < 128 ^ k → ∃ h t, enc n = h ++ [t] ∧ (∀ c ∈ h, 128 ≤ c.toNat) ∧ t.toNat < 128 := by
  intro k
  induction k with
  | zero => intro n h; refine ⟨[], UInt8.ofNat n, ?_, by simp, ?_⟩ <;> simp at h <;> subst h <;> simp [enc_small]
  | succ k ih =>
    intro n h
    by_cases h1 : n < 128
    · exact ⟨[], UInt8.ofNat n, by rw [enc_small h1]; rfl, by simp, by rw [toNat_ofNat (by omega)]; exact h1⟩
    · obtain ⟨hd, t, e1, e2, e3⟩ := ih (n / 128) (by rw [Nat.pow_succ] at h; omega)
      refine ⟨UInt8.ofNat (n % 128 + 128) :: hd, t, by rw [enc_big (by omega), e1]; rfl, ?_, e3⟩
      intro c hc
      rcases List.mem_cons.1 hc with rfl | hc
      · rw [toNat_ofNat (by omega)]; omega
      · exact e2 c hc

/-- THE STATE OF A READER: what is left, and whether it is bad. -/
abbrev St := List UInt8 × Bool
def takeS (ahead : Nat) (n : Int) (s : St) : List UInt8 × St :=
  if s.2 = true ∨ n < 0 ∨ (s.1.length : Int) - ahead < n then ([], (s.1, true)) else ((s.1.drop ahead).take n.toNat, (s.1.drop (ahead + n.toNat), false))
def numS (s : St) : Nat × St := if s.2 then (0, (s.1, true)) else match dec 9 0 s.1 with | none => (0, (s.1, true)) | some (n, k) => (n, (s.1.drop k, false))
def textS (s : St) : List UInt8 × St := match dec 9 0 s.1 with | none => ([], (s.1, true)) | some (n, k) => takeS k n s
def byteS (s : St) : UInt8 × St := if s.2 then (0, (s.1, true)) else match s.1 with | [] => (0, ([], true)) | c :: r => (c, (r, false))

theorem takeS_bad (ahead : Nat) (n : Int) (l : List UInt8) : takeS ahead n (l, true) = ([], (l, true)) := by simp [takeS]
theorem textS_bad (l : List UInt8) : textS (l, true) = ([], (l, true)) := by
  unfold textS
  split
  · rfl
  · exact takeS_bad _ _ _
theorem numS_bad (l : List UInt8) : numS (l, true) = (0, (l, true)) := rfl
theorem byteS_bad (l : List UInt8) : byteS (l, true) = (0, (l, true)) := rfl
theorem numS_enc (n : Nat) (r : List UInt8) (h : n < 9223372036854775808) : numS (enc n ++ r, false) = (n, (r, false)) := by
  simp [numS, dec_enc9 n r h]
theorem textS_enc (t r : List UInt8) (h : t.length < 9223372036854775808) : textS (enc t.length ++ (t ++ r), false) = (t, (r, false)) := by
  unfold textS
  simp only [dec_enc9 t.length (t ++ r) h]
  unfold takeS
  simp only [Bool.false_eq_true, false_or, List.length_append, Int.toNat_natCast]
  rw [if_neg (by omega)]
  simp
theorem rawS_enc (t r : List UInt8) : takeS 0 t.length (t ++ r, false) = (t, (r, false)) := by
  unfold takeS
  simp only [Bool.false_eq_true, false_or, List.length_append, Int.toNat_natCast]
  rw [if_neg (by omega)]
  simp
theorem byteS_enc (c : UInt8) (r : List UInt8) : byteS (c :: r, false) = (c, (r, false)) := rfl
end Go.Proofs.YtihahckjcedceaaDoor

/- bits.Len's contract at this program: a laying of the library's own. -/
namespace Go.Proofs
open Go.Shelf
def Tryd.lays125_ren : Go.Shelf.Ren := ⟨fun | 125 => 69 | 128 => 80 | 129 => 81 | n => n, fun | 46 => 106 | 3 => 3 | 51 => 124 | 53 => 126 | 4 => 4 | 5 => 5 | 9 => 9 | n => n, fun | n => n⟩
theorem Tryd.lays125 : Go.Proofs.Lays.n125 Tryd.prog Tryd.lays125_ren := {
  mixed := by kernel_rfl
  f125 := Tryd.func69.trans (congrArg some (by kernel_rfl))
  f128 := Tryd.func80.trans (congrArg some (by kernel_rfl))
  f129 := Tryd.func81.trans (congrArg some (by kernel_rfl))
  t3 := Tryd.underlying3
  a3 := Tryd.isAgg3
  z3 := Tryd.sizeOf3
  v3 := Tryd.zeroValue3
  t4 := Tryd.underlying4
  a4 := Tryd.isAgg4
  z4 := Tryd.sizeOf4
  v4 := Tryd.zeroValue4
  t5 := Tryd.underlying5
  a5 := Tryd.isAgg5
  z5 := Tryd.sizeOf5
  v5 := Tryd.zeroValue5
  t9 := Tryd.underlying9
  a9 := Tryd.isAgg9
  z9 := Tryd.sizeOf9
  v9 := Tryd.zeroValue9
  t46 := Tryd.underlying106
  a46 := Tryd.isAgg106
  z46 := Tryd.sizeOf106
  v46 := Tryd.zeroValue106
  t51 := Tryd.underlying124
  a51 := Tryd.isAgg124
  z51 := Tryd.sizeOf124
  v51 := Tryd.zeroValue124
  t53 := Tryd.underlying126
  a53 := Tryd.isAgg126
  z53 := Tryd.sizeOf126
  v53 := Tryd.zeroValue126 }
theorem Tryd.bits_Len (x : Int) (w : World) (h0 : 0 ≤ x) (h1 : x ≤ 18446744073709551615) :
    Calls Tryd.prog 69 #[.int .u64 x] w fun e w' => e = .returned (.int .i64 (Lib.bitLen x.toNat)) ∧ w' = w := Any.bits_Len Tryd.lays125 x w h0 h1
end Go.Proofs
