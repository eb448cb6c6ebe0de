/-
  Texts of layer 14 and of what it stands on, one behind the other.
-/
import Derived.Laws.BitsAllLaws
import Derived.Test.YtihahckjcedceaaDoorMg04

/- Plain facts on CRC-32C over bit vectors: one bit, four bits by a table, a byte, a list of bytes; that all of it is linear and can be undone. -/
namespace Go.Proofs.YtihahckjcedceaaDoor
namespace Crc

/-- The polynomial. -/
def poly : BitVec 32 := 2197175160#32
/-- One bit falls out at the lower end. -/
def one (c : BitVec 32) : BitVec 32 := (c >>> 1) ^^^ (if c.getLsbD 0 then poly else 0#32)
def four (c : BitVec 32) : BitVec 32 := one (one (one (one c)))
def eight (c : BitVec 32) : BitVec 32 := four (four c)
/-- What four bits bring in. -/
def nib : List Nat := [0, 274646895, 549293790, 820201905, 1098587580, 1361435347, 1640403810, 1905808397, 2197175160, 2460548119, 2722870694, 2987750089, 3280807620, 3553878443, 3811616794, 4084100981]
def byte (c : BitVec 32) (x : UInt8) : BitVec 32 := eight (c ^^^ BitVec.ofNat 32 x.toNat)
def run (c : BitVec 32) (l : List UInt8) : BitVec 32 := l.foldl byte c
def more (c : BitVec 32) (l : List UInt8) : BitVec 32 := ~~~ run (~~~ c) l
def of (l : List UInt8) : BitVec 32 := more 0#32 l

theorem one_xor (a b : BitVec 32) : one (a ^^^ b) = one a ^^^ one b := by
  have ac : ∀ x y z u : BitVec 32, (x ^^^ y) ^^^ (z ^^^ u) = (x ^^^ z) ^^^ (y ^^^ u) := by
    intro x y z u
    ac_rfl
  unfold one
  rw [BitVec.ushiftRight_xor_distrib, BitVec.getLsbD_xor, ac]
  cases a.getLsbD 0 <;> cases b.getLsbD 0 <;> simp
theorem four_xor (a b : BitVec 32) : four (a ^^^ b) = four a ^^^ four b := by simp only [four, one_xor]
theorem eight_xor (a b : BitVec 32) : eight (a ^^^ b) = eight a ^^^ eight b := by simp only [eight, four_xor]

theorem one_zero_iff (d : BitVec 32) (h : one d = 0#32) : d = 0#32 := by
  have h31 : (one d).getLsbD 31 = false := by rw [h]; simp
  have h0 : d.getLsbD 0 = false := by
    unfold one at h31
    rw [BitVec.getLsbD_xor] at h31
    cases e : d.getLsbD 0 with
    | false => rfl
    | true =>
      rw [e] at h31
      have hp : (poly).getLsbD 31 = true := by decide
      simp only [if_true, hp, BitVec.getLsbD_ushiftRight] at h31
      rw [BitVec.getLsbD_of_ge d (1 + 31) (by omega)] at h31
      simp at h31
  have h1 : d >>> 1 = 0#32 := by
    unfold one at h
    rw [h0] at h
    simpa using h
  apply BitVec.eq_of_getLsbD_eq
  intro i hi
  rcases i with _ | i
  · simpa using h0
  · have := congrArg (fun v => v.getLsbD i) h1
    simpa [BitVec.getLsbD_ushiftRight, Nat.add_comm] using this
theorem one_inj {a b : BitVec 32} (h : one a = one b) : a = b := by
  have : one (a ^^^ b) = 0#32 := by rw [one_xor, h, BitVec.xor_self]
  have := one_zero_iff _ this
  exact BitVec.xor_eq_zero_iff.mp this
theorem four_inj {a b : BitVec 32} (h : four a = four b) : a = b := one_inj (one_inj (one_inj (one_inj h)))
theorem eight_inj {a b : BitVec 32} (h : eight a = eight b) : a = b := four_inj (four_inj h)

theorem one_even (a : BitVec 32) (h : a.getLsbD 0 = false) : one a = a >>> 1 := by unfold one; rw [h]; simp
theorem one_shl (a : BitVec 32) (k : Nat) (hk : k < 4) : one ((a >>> 4) <<< (k + 1)) = (a >>> 4) <<< k := by
  rw [one_even _ (by simp)]
  apply BitVec.eq_of_getLsbD_eq
  intro i hi
  simp only [BitVec.getLsbD_ushiftRight, BitVec.getLsbD_shiftLeft]
  have e1 : decide (i < 32) = true := by simp [hi]
  rw [e1]
  by_cases h : i < k
  · have e2 : decide (i < k) = true := by simp [h]
    have e3 : decide (1 + i < k + 1) = true := by simp; omega
    rw [e2, e3]
    simp
  · have e2 : decide (i < k) = false := by simp [h]
    have e3 : decide (1 + i < k + 1) = false := by simp; omega
    have e4 : 1 + i - (k + 1) = i - k := by omega
    rw [e2, e3, e4]
    by_cases h2 : 1 + i < 32
    · simp [h2]
    · rw [BitVec.getLsbD_of_ge a (4 + (i - k)) (by omega)]
      simp
theorem four_high (a : BitVec 32) : four ((a >>> 4) <<< 4) = a >>> 4 := by
  unfold four
  rw [one_shl a 3 (by omega), one_shl a 2 (by omega), one_shl a 1 (by omega), one_shl a 0 (by omega)]
  simp
theorem four_low : ∀ i : Fin 16, four (BitVec.ofNat 32 i.val) = BitVec.ofNat 32 (nib.getD i.val 0) := by decide +kernel

/-- FOUR BITS AT A TIME, BY THE TABLE. -/
theorem four_tab (c : BitVec 32) : four c = (c >>> 4) ^^^ BitVec.ofNat 32 (nib.getD (c.toNat % 16) 0) := by
  have hs : c = ((c >>> 4) <<< 4) ^^^ BitVec.ofNat 32 (c.toNat % 16) := by
    apply BitVec.eq_of_getLsbD_eq
    intro i hi
    simp only [BitVec.getLsbD_xor, BitVec.getLsbD_ushiftRight, BitVec.getLsbD_shiftLeft, BitVec.getLsbD_ofNat]
    have e0 : (c.toNat % 16).testBit i = (decide (i < 4) && c.toNat.testBit i) := Nat.testBit_mod_two_pow c.toNat 4 i
    rw [e0]
    simp only [BitVec.testBit_toNat]
    by_cases h : i < 4
    · simp [h, hi]
    · have e4 : 4 + (i - 4) = i := by omega
      simp [h, hi, e4]
  have hl := four_low ⟨c.toNat % 16, by omega⟩
  calc four c = four (((c >>> 4) <<< 4) ^^^ BitVec.ofNat 32 (c.toNat % 16)) := by rw [← hs]
    _ = _ := by rw [four_xor, four_high, hl]

/-- The table's number at a place, closed to the walk. -/
def nibAt (i : Nat) : Nat := nib.getD i 0
theorem nibAt_lt (i : Nat) (h : i < 16) : nibAt i < 4294967296 := by
  have : ∀ i : Fin 16, nibAt i.val < 4294967296 := by decide
  exact this ⟨i, h⟩

def ones : Nat → BitVec 32 → BitVec 32
  | 0, t => t
  | j + 1, t => one (ones j t)
theorem ones_eight (t : BitVec 32) : ones 8 t = eight t := rfl
theorem one_odd (s : BitVec 32) (h : s.toNat % 2 = 1) : one s = (s >>> 1) ^^^ poly := by
  have h0 : s.getLsbD 0 = true := by
    rw [← BitVec.testBit_toNat, Nat.testBit_zero]
    simp [h]
  unfold one
  rw [h0]
  simp
theorem one_even_nat (s : BitVec 32) (h : s.toNat % 2 = 0) : one s = s >>> 1 := by
  apply one_even
  rw [← BitVec.testBit_toNat, Nat.testBit_zero]
  simp [h]

theorem byte_inj {c d : BitVec 32} {x : UInt8} (h : byte c x = byte d x) : c = d := by
  have := eight_inj h
  exact BitVec.xor_left_inj _ |>.mp this
theorem run_inj {c d : BitVec 32} (l : List UInt8) (h : run c l = run d l) : c = d := by
  induction l generalizing c d with
  | nil => exact h
  | cons x l ih => exact byte_inj (ih (by simpa [run] using h))
theorem run_append (c : BitVec 32) (l r : List UInt8) : run c (l ++ r) = run (run c l) r := by simp [run]
theorem run_snoc (c : BitVec 32) (l : List UInt8) (x : UInt8) : run c (l ++ [x]) = byte (run c l) x := by simp [run]
theorem more_append (c : BitVec 32) (l r : List UInt8) : more c (l ++ r) = more (more c l) r := by simp [more, run_append]
theorem more_nil (c : BitVec 32) : more c [] = c := by simp [more, run]

/-- two lists of one length that differ at one place alone have two sums -/
theorem of_tells (l r : List UInt8) (x y : UInt8) (h : x ≠ y) : of (l ++ x :: r) ≠ of (l ++ y :: r) := by
  intro e
  unfold of more at e
  have e1 := BitVec.not_inj.mp e
  rw [run_append, run_append] at e1
  have e2 : byte (run (~~~0#32) l) x = byte (run (~~~0#32) l) y := run_inj r (by simpa [run] using e1)
  have e3 := eight_inj e2
  have e4 := (BitVec.xor_right_inj _).mp e3
  have e5 := congrArg BitVec.toNat e4
  have hx := x.toNat_lt
  have hy := y.toNat_lt
  simp only [BitVec.toNat_ofNat] at e5
  rw [Nat.mod_eq_of_lt (by omega), Nat.mod_eq_of_lt (by omega)] at e5
  exact h (UInt8.toNat_inj.mp e5)

theorem byte_xor3 (a b c : BitVec 32) (x y z : UInt8) : byte (a ^^^ b ^^^ c) (x ^^^ y ^^^ z) = byte a x ^^^ byte b y ^^^ byte c z := by
  have hx := x.toNat_lt
  have hy := y.toNat_lt
  have hz := z.toNat_lt
  unfold byte
  rw [← eight_xor, ← eight_xor]
  congr 1
  have e : BitVec.ofNat 32 (x ^^^ y ^^^ z).toNat = BitVec.ofNat 32 x.toNat ^^^ BitVec.ofNat 32 y.toNat ^^^ BitVec.ofNat 32 z.toNat := by
    rw [UInt8.toNat_xor, UInt8.toNat_xor, BitVec.ofNat_xor, BitVec.ofNat_xor]
  rw [e]
  ac_rfl
def xor3 : List UInt8 → List UInt8 → List UInt8 → List UInt8
  | x :: a, y :: b, z :: c => (x ^^^ y ^^^ z) :: xor3 a b c
  | _, _, _ => []
theorem run_xor3 (l r s : List UInt8) (h1 : l.length = r.length) (h2 : l.length = s.length) (a b c : BitVec 32) :
    run (a ^^^ b ^^^ c) (xor3 l r s) = run a l ^^^ run b r ^^^ run c s := by
  induction l generalizing r s a b c with
  | nil =>
    cases r <;> cases s <;> simp_all [xor3, run]
  | cons x l ih =>
    cases r with
    | nil => simp at h1
    | cons y r =>
      cases s with
      | nil => simp at h2
      | cons z s =>
        have := ih r s (by simpa using h1) (by simpa using h2) (byte a x) (byte b y) (byte c z)
        simpa [xor3, run, byte_xor3] using this
theorem of_xor3 (l r s : List UInt8) (h1 : l.length = r.length) (h2 : l.length = s.length) : of (xor3 l r s) = of l ^^^ of r ^^^ of s := by
  have h := run_xor3 l r s h1 h2 (~~~0#32) (~~~0#32) (~~~0#32)
  have e : (~~~0#32 : BitVec 32) ^^^ ~~~0#32 ^^^ ~~~0#32 = ~~~0#32 := by decide
  rw [e] at h
  unfold of more
  rw [h]
  apply BitVec.eq_of_getLsbD_eq
  intro i hi
  simp [hi]

theorem one_shl' (x : BitVec 32) (k : Nat) (hk : k < 8) (hx : x.toNat < 2 ^ 24) : one (x <<< (k + 1)) = x <<< k := by
  rw [one_even _ (by simp)]
  apply BitVec.eq_of_getLsbD_eq
  intro i hi
  simp only [BitVec.getLsbD_ushiftRight, BitVec.getLsbD_shiftLeft]
  have e1 : decide (i < 32) = true := by simp [hi]
  rw [e1]
  by_cases h : i < k
  · have e2 : decide (i < k) = true := by simp [h]
    have e3 : decide (1 + i < k + 1) = true := by simp; omega
    rw [e2, e3]
    simp
  · have e2 : decide (i < k) = false := by simp [h]
    have e3 : decide (1 + i < k + 1) = false := by simp; omega
    have e4 : 1 + i - (k + 1) = i - k := by omega
    rw [e2, e3, e4]
    by_cases h2 : 1 + i < 32
    · simp [h2]
    · have e5 : x.getLsbD (i - k) = false := by
        rw [← BitVec.testBit_toNat]
        exact Nat.testBit_lt_two_pow (Nat.lt_of_lt_of_le hx (Nat.pow_le_pow_right (by omega) (by omega)))
      simp [e5]
theorem eight_shl (x : BitVec 32) (hx : x.toNat < 2 ^ 24) : eight (x <<< 8) = x := by
  unfold eight four
  rw [one_shl' x 7 (by omega) hx, one_shl' x 6 (by omega) hx, one_shl' x 5 (by omega) hx, one_shl' x 4 (by omega) hx,
    one_shl' x 3 (by omega) hx, one_shl' x 2 (by omega) hx, one_shl' x 1 (by omega) hx, one_shl' x 0 (by omega) hx]
  simp
theorem eight_at (x : Nat) (hx : x < 16777216) : eight (BitVec.ofNat 32 (x * 256)) = BitVec.ofNat 32 x := by
  have e : BitVec.ofNat 32 (x * 256) = (BitVec.ofNat 32 x) <<< 8 := by
    apply BitVec.eq_of_toNat_eq
    rw [BitVec.toNat_shiftLeft, BitVec.toNat_ofNat, BitVec.toNat_ofNat, Nat.shiftLeft_eq]
    omega
  rw [e]
  exact eight_shl _ (by rw [BitVec.toNat_ofNat]; omega)
theorem xor_parts (n : Nat) :
    BitVec.ofNat 32 n = BitVec.ofNat 32 (n % 256) ^^^ BitVec.ofNat 32 (n / 256 % 256 * 256) ^^^ BitVec.ofNat 32 (n / 65536 % 256 * 65536) ^^^ BitVec.ofNat 32 (n / 16777216 % 256 * 16777216) := by
  apply BitVec.eq_of_getLsbD_eq
  intro i hi
  have p8 : (256 : Nat) = 2 ^ 8 := by decide
  have p16 : (65536 : Nat) = 2 ^ 16 := by decide
  have p24 : (16777216 : Nat) = 2 ^ 24 := by decide
  simp only [BitVec.getLsbD_xor, BitVec.getLsbD_ofNat, hi, decide_true, Bool.true_and]
  rw [p16, p24, p8]
  simp only [Nat.testBit_mod_two_pow, Nat.testBit_mul_two_pow, Nat.testBit_div_two_pow]
  have c : i < 8 ∨ (8 ≤ i ∧ i < 16) ∨ (16 ≤ i ∧ i < 24) ∨ 24 ≤ i := by omega
  rcases c with h | ⟨h, h'⟩ | ⟨h, h'⟩ | h
  · simp [h, show ¬ 8 ≤ i by omega, show ¬ 16 ≤ i by omega, show ¬ 24 ≤ i by omega]
  · simp [show ¬ i < 8 by omega, h, show ¬ 16 ≤ i by omega, show ¬ 24 ≤ i by omega, show i - 8 < 8 by omega, show i - 8 + 8 = i by omega]
  · simp [show ¬ i < 8 by omega, h, show 8 ≤ i by omega, show ¬ i - 8 < 8 by omega, show ¬ 24 ≤ i by omega, show i - 16 < 8 by omega, show i - 16 + 16 = i by omega]
  · simp [show ¬ i < 8 by omega, h, show 8 ≤ i by omega, show 16 ≤ i by omega, show ¬ i - 8 < 8 by omega, show ¬ i - 16 < 8 by omega, show i - 24 < 8 by omega, show i - 24 + 24 = i by omega]
theorem of_end (c : BitVec 32) : more c [UInt8.ofNat c.toNat, UInt8.ofNat (c.toNat / 256), UInt8.ofNat (c.toNat / 65536), UInt8.ofNat (c.toNat / 16777216)] = 1214729159#32 := by
  have hp := xor_parts c.toNat
  rw [BitVec.ofNat_toNat, BitVec.setWidth_eq] at hp
  unfold more run
  simp only [List.foldl_cons, List.foldl_nil]
  unfold byte
  simp only [UInt8.toNat_ofNat']
  have p8 : 2 ^ 8 = 256 := by decide
  rw [p8]
  have e1 : BitVec.ofNat 32 (c.toNat / 256 % 256) = eight (BitVec.ofNat 32 (c.toNat / 256 % 256 * 256)) := (eight_at _ (by omega)).symm
  have e2 : BitVec.ofNat 32 (c.toNat / 65536 % 256) = eight (eight (BitVec.ofNat 32 (c.toNat / 65536 % 256 * 65536))) := by
    rw [show c.toNat / 65536 % 256 * 65536 = c.toNat / 65536 % 256 * 256 * 256 by omega, eight_at _ (by omega), eight_at _ (by omega)]
  have e3 : BitVec.ofNat 32 (c.toNat / 16777216 % 256) = eight (eight (eight (BitVec.ofNat 32 (c.toNat / 16777216 % 256 * 16777216)))) := by
    rw [show c.toNat / 16777216 % 256 * 16777216 = c.toNat / 16777216 % 256 * 256 * 256 * 256 by omega, eight_at _ (by omega), eight_at _ (by omega), eight_at _ (by omega)]
  rw [e1, ← eight_xor, e2, ← eight_xor, ← eight_xor, e3, ← eight_xor, ← eight_xor, ← eight_xor]
  have e4 : ~~~c ^^^ BitVec.ofNat 32 (c.toNat % 256) ^^^ BitVec.ofNat 32 (c.toNat / 256 % 256 * 256) ^^^ BitVec.ofNat 32 (c.toNat / 65536 % 256 * 65536) ^^^ BitVec.ofNat 32 (c.toNat / 16777216 % 256 * 16777216) = BitVec.allOnes 32 := by
    have a1 : ∀ x y z u v : BitVec 32, x ^^^ y ^^^ z ^^^ u ^^^ v = x ^^^ (y ^^^ z ^^^ u ^^^ v) := by
      intro x y z u v
      ac_rfl
    rw [a1, ← hp]
    apply BitVec.eq_of_getLsbD_eq
    intro i hi
    simp only [BitVec.getLsbD_xor, BitVec.getLsbD_not, BitVec.getLsbD_allOnes, hi, decide_true, Bool.true_and]
    cases c.getLsbD i <;> rfl
  rw [e4]
  decide +kernel

/-- what has been put together of three lists behind k places -/
def joinTo (a b c : List UInt8) (n : Nat) : Nat → List UInt8
  | 0 => List.replicate n 0
  | k + 1 => (joinTo a b c n k).set k (a.getD k 0 ^^^ b.getD k 0 ^^^ c.getD k 0)
theorem joinTo_length (a b c : List UInt8) (n k : Nat) : (joinTo a b c n k).length = n := by
  induction k with
  | zero => simp [joinTo]
  | succ k ih => simp [joinTo, ih]
theorem joinTo_get (a b c : List UInt8) (n k i : Nat) (hi : i < n) : (joinTo a b c n k)[i]? = some (if i < k then a.getD i 0 ^^^ b.getD i 0 ^^^ c.getD i 0 else 0) := by
  induction k with
  | zero => simp [joinTo, hi]
  | succ k ih =>
    unfold joinTo
    rw [List.getElem?_set]
    by_cases e : k = i
    · subst e
      simp [joinTo_length, hi]
    · rw [if_neg e, ih]
      by_cases h : i < k
      · simp [h, show i < k + 1 by omega]
      · simp [h, show ¬ i < k + 1 by omega]
theorem xor3_get (a b c : List UInt8) (i : Nat) (h1 : i < a.length) (h2 : i < b.length) (h3 : i < c.length) : (xor3 a b c)[i]? = some (a.getD i 0 ^^^ b.getD i 0 ^^^ c.getD i 0) := by
  induction a generalizing b c i with
  | nil => simp at h1
  | cons x a ih =>
    cases b with
    | nil => simp at h2
    | cons y b =>
      cases c with
      | nil => simp at h3
      | cons z c =>
        cases i with
        | zero => simp [xor3]
        | succ i =>
          have := ih b c i (by simpa using h1) (by simpa using h2) (by simpa using h3)
          simpa [xor3] using this
theorem xor3_length (a b c : List UInt8) (h1 : a.length = b.length) (h2 : a.length = c.length) : (xor3 a b c).length = a.length := by
  induction a generalizing b c with
  | nil => simp [xor3]
  | cons x a ih =>
    cases b with
    | nil => simp at h1
    | cons y b =>
      cases c with
      | nil => simp at h2
      | cons z c => simpa [xor3] using ih b c (by simpa using h1) (by simpa using h2)
theorem joinTo_all (a b c : List UInt8) (n : Nat) (h1 : n ≤ a.length) (h2 : n ≤ b.length) (h3 : n ≤ c.length) : joinTo a b c n n = xor3 (a.take n) (b.take n) (c.take n) := by
  apply List.ext_getElem?
  intro i
  by_cases hi : i < n
  · rw [joinTo_get _ _ _ _ _ _ hi, if_pos hi, xor3_get _ _ _ _ (by simp; omega) (by simp; omega) (by simp; omega)]
    simp [List.getD, hi]
  · rw [List.getElem?_eq_none (by rw [joinTo_length]; omega), List.getElem?_eq_none (by rw [xor3_length _ _ _ (by simp; omega) (by simp; omega)]; simp; omega)]
theorem of_joinTo (a b c : List UInt8) (n : Nat) (h1 : n ≤ a.length) (h2 : n ≤ b.length) (h3 : n ≤ c.length) : of (joinTo a b c n n) = of (a.take n) ^^^ of (b.take n) ^^^ of (c.take n) := by
  rw [joinTo_all a b c n h1 h2 h3, of_xor3 _ _ _ (by simp; omega) (by simp; omega)]

end Crc
end Go.Proofs.YtihahckjcedceaaDoor

/- Layer 7, plain mathematics: a device of zones as the document has it. No program is named. -/
namespace Go.Proofs.YtihahckjcedceaaDoor
set_option linter.unusedVariables false

/-- A zone: its bytes, how many are flushed, its state. -/
structure Zn where
  b : List UInt8
  f : Nat
  s : Nat
def zn0 : Zn := ⟨[], 0, 0⟩
/-- A device: zones, their size, how many may be open, how many commands more (if it is armed), how many were done, whether it is down. -/
structure Dev where
  zs : List Zn
  size : Nat
  opn : Nat
  arm : Option Nat
  done : Nat
  down : Bool
def rightG (z s o : Int) : Bool := decide (1 ≤ z) && decide (z ≤ 64) && decide (16 ≤ s) && decide (s ≤ 65536) && decide (1 ≤ o) && decide (o ≤ z)
theorem rightG_iff {z s o : Int} : rightG z s o = true ↔ 1 ≤ z ∧ z ≤ 64 ∧ 16 ≤ s ∧ s ≤ 65536 ∧ 1 ≤ o ∧ o ≤ z := by
  unfold rightG
  simp only [Bool.and_eq_true, decide_eq_true_eq, and_assoc]
def newM (z s o : Int) : Dev := ⟨List.replicate z.toNat zn0, s.toNat, o.toNat, none, 0, false⟩
def hasZ (m : Dev) (z : Int) : Bool := decide (0 ≤ z) && decide (z < (m.zs.length : Int))
def zoneM (m : Dev) (z : Int) : Zn := m.zs.getD z.toNat zn0
def opened (m : Dev) : Nat := m.zs.countP fun x => x.s == 1
def setZ (m : Dev) (z : Int) (x : Zn) : Dev := { m with zs := m.zs.set z.toNat x }
/-- Is one more command done? -/
def cmdM (m : Dev) : Bool := match m.arm with
  | some 0 => false
  | _ => true
def powM (m : Dev) : Dev := match m.arm with
  | none => { m with done := m.done + 1 }
  | some 0 => { m with down := true }
  | some (n + 1) => { m with arm := some n, done := m.done + 1 }
def appErr (m : Dev) (z : Int) (b : List UInt8) : Int :=
  if m.down then 74 else if !hasZ m z then 70 else if (zoneM m z).s == 2 then 71 else if (zoneM m z).s == 0 && decide (m.opn ≤ opened m) then 72
  else if decide (m.size < (zoneM m z).b.length + b.length) then 73 else 0
def appZ (m : Dev) (z : Int) (b : List UInt8) : Zn := ⟨(zoneM m z).b ++ b, (zoneM m z).f, if (zoneM m z).b.length + b.length = m.size then 2 else 1⟩
def cmdR (m : Dev) (e : Int) : Int := if e = 0 then (if cmdM m then 0 else 74) else e
def appM (m : Dev) (z : Int) (b : List UInt8) : Dev := if appErr m z b = 0 then powM (setZ m z (appZ m z b)) else m
def resErr (m : Dev) (z : Int) : Int := if m.down then 74 else if !hasZ m z then 70 else 0
def resM (m : Dev) (z : Int) : Dev := if resErr m z = 0 then (if cmdM m then powM (setZ m z zn0) else powM m) else m
def finErr (m : Dev) (z : Int) : Int := if m.down then 74 else if !hasZ m z then 70 else if (zoneM m z).s == 0 then 71 else 0
def finM (m : Dev) (z : Int) : Dev := if finErr m z = 0 then (if cmdM m then powM (setZ m z { zoneM m z with s := 2 }) else powM m) else m
def fluErr (m : Dev) : Int := if m.down then 74 else 0
def allFlushed (m : Dev) : Dev := { m with zs := m.zs.map fun x => { x with f := x.b.length } }
def fluM (m : Dev) : Dev := if fluErr m = 0 then (if cmdM m then powM (allFlushed m) else powM m) else m
def rdErr (m : Dev) (z a n : Int) : Int :=
  if m.down then 74 else if !hasZ m z then 70 else if decide (a < 0) || decide (n < 0) || decide (((zoneM m z).b.length : Int) < a + n) then 70 else 0
def rdB (m : Dev) (z a n : Int) : List UInt8 := if rdErr m z a n = 0 then ((zoneM m z).b.drop a.toNat).take n.toNat else []
def armM (m : Dev) (n : Int) : Dev := { m with arm := if n < 0 then none else some n.toNat }
def crashZ (size : Nat) (x : Zn) (k : Nat) : Zn :=
  ⟨x.b.take (x.f + min k (x.b.length - x.f)), x.f + min k (x.b.length - x.f), if x.f + min k (x.b.length - x.f) = 0 then 0 else if x.s = 2 ∨ x.f + min k (x.b.length - x.f) = size then 2 else 1⟩
def crashL (size : Nat) : List Zn → List Int → List Zn
  | [], _ => []
  | x :: xs, ks => crashZ size x (ks.headD 0).toNat :: crashL size xs ks.tail
def crashM (m : Dev) (ks : List Int) : Dev := { m with zs := crashL m.size m.zs ks, arm := none, down := false }
def stateM (m : Dev) (z : Int) : Int := if hasZ m z then ((zoneM m z).s : Int) else -1
def ptrM (m : Dev) (z : Int) : Int := if hasZ m z then ((zoneM m z).b.length : Int) else 0
def fldM (m : Dev) (z : Int) : Int := if hasZ m z then ((zoneM m z).f : Int) else 0

/-! ### What holds of every device. -/
structure ZOK (size : Nat) (x : Zn) : Prop where
  f : x.f ≤ x.b.length
  l : x.b.length ≤ size
  s : x.s ≤ 2
  e : x.s = 0 → x.b = []
  o : x.s = 1 → x.b.length < size
structure WF (m : Dev) : Prop where
  n1 : 1 ≤ m.zs.length
  n64 : m.zs.length ≤ 64
  s16 : 16 ≤ m.size
  s64 : m.size ≤ 65536
  o1 : 1 ≤ m.opn
  on : m.opn ≤ m.zs.length
  z : ∀ x ∈ m.zs, ZOK m.size x
  op : opened m ≤ m.opn
theorem hasZ_iff {m : Dev} {z : Int} : hasZ m z = true ↔ 0 ≤ z ∧ z.toNat < m.zs.length := by
  unfold hasZ
  rw [Bool.and_eq_true, decide_eq_true_eq, decide_eq_true_eq]
  omega
theorem zoneM_mem {m : Dev} {z : Int} (h : hasZ m z = true) : zoneM m z ∈ m.zs := by
  have := (hasZ_iff.1 h).2
  unfold zoneM
  rw [List.getD_eq_getElem?_getD, List.getElem?_eq_getElem this]
  exact List.getElem_mem _
theorem zn0_ok (size : Nat) : ZOK size zn0 := ⟨Nat.le_refl _, Nat.zero_le _, Nat.zero_le _, fun _ => rfl, fun h => absurd (show (0 : Nat) = 1 from h) (by omega)⟩
theorem zoneM_ok {m : Dev} (h : WF m) (z : Int) : ZOK m.size (zoneM m z) := by
  unfold zoneM
  rw [List.getD_eq_getElem?_getD]
  cases e : m.zs[z.toNat]? with
  | none => exact zn0_ok _
  | some x => exact h.z x (List.mem_of_getElem? e)
theorem wf_new {z s o : Int} (h : rightG z s o = true) : WF (newM z s o) := by
  obtain ⟨h1, h2, h3, h4, h5, h6⟩ := rightG_iff.1 h
  have e : (newM z s o).zs.length = z.toNat := by simp [newM]
  have e2 : (newM z s o).size = s.toNat := rfl
  have e3 : (newM z s o).opn = o.toNat := rfl
  refine ⟨by omega, by omega, by omega, by omega, by omega, by omega, fun x hx => ?_, ?_⟩
  · obtain rfl : x = zn0 := List.eq_of_mem_replicate hx
    exact zn0_ok _
  · have : opened (newM z s o) = 0 := by
      unfold opened
      rw [List.countP_eq_zero]
      intro x hx
      obtain rfl : x = zn0 := List.eq_of_mem_replicate hx
      simp [zn0]
    omega
theorem opened_set {m : Dev} {z : Int} (h : hasZ m z = true) (y : Zn) : opened (setZ m z y) + (if (zoneM m z).s == 1 then 1 else 0) = opened m + (if y.s == 1 then 1 else 0) := by
  have hl := (hasZ_iff.1 h).2
  unfold opened setZ zoneM
  rw [List.countP_set hl, List.getD_eq_getElem?_getD, List.getElem?_eq_getElem hl]
  simp only [Option.getD_some]
  have : (if (m.zs[z.toNat].s == 1) = true then 1 else 0) ≤ m.zs.countP fun x => x.s == 1 := by
    split
    · rename_i h1
      exact List.countP_pos_iff.2 ⟨_, List.getElem_mem hl, h1⟩
    · exact Nat.zero_le _
  omega
theorem wf_set {m : Dev} (h : WF m) {z : Int} (hz : hasZ m z = true) {y : Zn} (hy : ZOK m.size y) (ho : opened (setZ m z y) ≤ m.opn) : WF (setZ m z y) := by
  have e : (setZ m z y).zs.length = m.zs.length := by simp [setZ]
  refine ⟨by rw [e]; exact h.n1, by rw [e]; exact h.n64, h.s16, h.s64, h.o1, by rw [e]; exact h.on, fun x hx => ?_, ho⟩
  rcases List.mem_or_eq_of_mem_set hx with h1 | h1
  · exact h.z x h1
  · rw [h1]; exact hy
theorem wf_pow {m : Dev} (h : WF m) : WF (powM m) := by
  unfold powM
  split <;> exact ⟨h.n1, h.n64, h.s16, h.s64, h.o1, h.on, h.z, h.op⟩
theorem appErr_ok {m : Dev} {z : Int} {b : List UInt8} (h : appErr m z b = 0) : m.down = false ∧ hasZ m z = true ∧ (zoneM m z).s ≠ 2 ∧ ((zoneM m z).s = 0 → opened m < m.opn) ∧ (zoneM m z).b.length + b.length ≤ m.size := by
  unfold appErr at h
  split at h
  · omega
  · rename_i h1
    split at h
    · omega
    · rename_i h2
      split at h
      · omega
      · rename_i h3
        split at h
        · omega
        · rename_i h4
          split at h
          · omega
          · rename_i h5
            simp only [Bool.not_eq_true, Bool.not_eq_false', beq_eq_false_iff_ne, ne_eq, Bool.and_eq_false_iff, decide_eq_false_iff_not, Nat.not_le, Nat.not_lt] at h1 h2 h3 h4 h5
            refine ⟨h1, h2, h3, fun h6 => ?_, h5⟩
            rcases h4 with h4 | h4
            · exact absurd h6 h4
            · exact h4
theorem wf_app {m : Dev} (h : WF m) (z : Int) (b : List UInt8) : WF (appM m z b) := by
  unfold appM
  split
  · rename_i h0
    obtain ⟨h1, h2, h3, h4, h5⟩ := appErr_ok h0
    have hk := zoneM_ok h z
    have hs := opened_set h2 (appZ m z b)
    have h6 : (appZ m z b).s = if (zoneM m z).b.length + b.length = m.size then 2 else 1 := rfl
    have h7 := h.op
    refine wf_pow (wf_set h h2 ⟨?_, ?_, ?_, fun h6' => ?_, fun h6' => ?_⟩ ?_)
    · show (zoneM m z).f ≤ ((zoneM m z).b ++ b).length
      have := hk.f
      rw [List.length_append]
      omega
    · show ((zoneM m z).b ++ b).length ≤ _
      rw [List.length_append]
      exact h5
    · rw [h6]; split <;> omega
    · rw [h6] at h6'
      split at h6' <;> omega
    · rw [h6] at h6'
      show ((zoneM m z).b ++ b).length < _
      rw [List.length_append]
      split at h6' <;> omega
    · have h8 := hk.s
      rcases Nat.lt_or_ge (zoneM m z).s 1 with h9 | h9
      · have := h4 (by omega)
        rw [show ((zoneM m z).s == 1) = false by rw [beq_eq_false_iff_ne]; omega] at hs
        simp only [Bool.false_eq_true, if_false, Nat.add_zero] at hs
        split at hs <;> omega
      · rw [show ((zoneM m z).s == 1) = true by rw [beq_iff_eq]; omega] at hs
        simp only [if_true] at hs
        split at hs <;> omega
  · exact h
theorem resErr_ok {m : Dev} {z : Int} (h : resErr m z = 0) : m.down = false ∧ hasZ m z = true := by
  unfold resErr at h
  split at h
  · omega
  · rename_i h1
    split at h
    · omega
    · rename_i h2
      simp only [Bool.not_eq_true, Bool.not_eq_false'] at h1 h2
      exact ⟨h1, h2⟩
theorem opened_le {m : Dev} {z : Int} (h : hasZ m z = true) {y : Zn} (hy : y.s ≠ 1) : opened (setZ m z y) ≤ opened m := by
  have := opened_set h y
  rw [show (y.s == 1) = false by rw [beq_eq_false_iff_ne]; exact hy] at this
  simp only [Bool.false_eq_true, if_false, Nat.add_zero] at this
  omega
theorem wf_res {m : Dev} (h : WF m) (z : Int) : WF (resM m z) := by
  unfold resM
  split
  · rename_i h0
    obtain ⟨h1, h2⟩ := resErr_ok h0
    split
    · exact wf_pow (wf_set h h2 (zn0_ok _) (Nat.le_trans (opened_le h2 (by simp [zn0])) h.op))
    · exact wf_pow h
  · exact h
theorem finErr_ok {m : Dev} {z : Int} (h : finErr m z = 0) : m.down = false ∧ hasZ m z = true ∧ (zoneM m z).s ≠ 0 := by
  unfold finErr at h
  split at h
  · omega
  · rename_i h1
    split at h
    · omega
    · rename_i h2
      split at h
      · omega
      · rename_i h3
        simp only [Bool.not_eq_true, Bool.not_eq_false', beq_eq_false_iff_ne, ne_eq] at h1 h2 h3
        exact ⟨h1, h2, h3⟩
theorem wf_fin {m : Dev} (h : WF m) (z : Int) : WF (finM m z) := by
  unfold finM
  split
  · rename_i h0
    obtain ⟨h1, h2, h3⟩ := finErr_ok h0
    have hk := zoneM_ok h z
    split
    · exact wf_pow (wf_set h h2 ⟨hk.f, hk.l, Nat.le_refl _, fun h => absurd (show (2 : Nat) = 0 from h) (by omega), fun h => absurd (show (2 : Nat) = 1 from h) (by omega)⟩ (Nat.le_trans (opened_le h2 (by simp)) h.op))
    · exact wf_pow h
  · exact h
theorem opened_flu (m : Dev) : opened (allFlushed m) = opened m := by
  unfold opened allFlushed
  rw [List.countP_map]
  rfl
theorem wf_flu {m : Dev} (h : WF m) : WF (fluM m) := by
  unfold fluM
  split
  · split
    · have e : (allFlushed m).zs.length = m.zs.length := by simp [allFlushed]
      refine wf_pow ⟨by rw [e]; exact h.n1, by rw [e]; exact h.n64, h.s16, h.s64, h.o1, by rw [e]; exact h.on, fun x hx => ?_, by rw [opened_flu]; exact h.op⟩
      obtain ⟨y, hy, rfl⟩ := List.mem_map.1 hx
      have hk := h.z y hy
      exact ⟨Nat.le_refl _, hk.l, hk.s, hk.e, hk.o⟩
    · exact wf_pow h
  · exact h
theorem wf_arm {m : Dev} (h : WF m) (n : Int) : WF (armM m n) := ⟨h.n1, h.n64, h.s16, h.s64, h.o1, h.on, h.z, h.op⟩
theorem crashL_length (size : Nat) : ∀ (l : List Zn) (ks : List Int), (crashL size l ks).length = l.length
  | [], _ => rfl
  | x :: xs, ks => by
    show (crashL size xs ks.tail).length + 1 = xs.length + 1
    rw [crashL_length size xs]
theorem crashL_get (size : Nat) : ∀ (l : List Zn) (ks : List Int) (i : Nat), i < l.length → (crashL size l ks)[i]? = some (crashZ size (l.getD i zn0) (ks.getD i 0).toNat)
  | [], _, _, h => absurd h (by simp)
  | x :: xs, ks, 0, _ => by cases ks <;> rfl
  | x :: xs, ks, i + 1, h => by
    show (crashL size xs ks.tail)[i]? = _
    rw [crashL_get size xs ks.tail i (by simpa using h)]
    cases ks <;> rfl
theorem crashZ_ok {size : Nat} {x : Zn} (h : ZOK size x) (k : Nat) : ZOK size (crashZ size x k) := by
  have h1 := h.f
  have h2 := h.l
  refine ⟨?_, ?_, ?_, fun h3 => ?_, fun h3 => ?_⟩
  · show x.f + min k (x.b.length - x.f) ≤ (x.b.take (x.f + min k (x.b.length - x.f))).length
    rw [List.length_take]
    omega
  · show (x.b.take (x.f + min k (x.b.length - x.f))).length ≤ size
    rw [List.length_take]
    omega
  · show (if x.f + min k (x.b.length - x.f) = 0 then 0 else if _ then 2 else 1) ≤ 2
    split
    · omega
    · split <;> omega
  · have h3 : (if x.f + min k (x.b.length - x.f) = 0 then 0 else if x.s = 2 ∨ x.f + min k (x.b.length - x.f) = size then 2 else 1) = 0 := h3
    split at h3
    · rename_i h4
      show x.b.take (x.f + min k (x.b.length - x.f)) = []
      rw [h4, List.take_zero]
    · split at h3 <;> omega
  · have h3 : (if x.f + min k (x.b.length - x.f) = 0 then 0 else if x.s = 2 ∨ x.f + min k (x.b.length - x.f) = size then 2 else 1) = 1 := h3
    show (x.b.take (x.f + min k (x.b.length - x.f))).length < size
    rw [List.length_take]
    split at h3
    · omega
    · split at h3
      · omega
      · omega
theorem crashL_ok {size : Nat} : ∀ {l : List Zn} (ks : List Int), (∀ x ∈ l, ZOK size x) → (∀ x ∈ crashL size l ks, ZOK size x) ∧ (crashL size l ks).countP (fun x => x.s == 1) ≤ l.countP (fun x => x.s == 1)
  | [], _, _ => ⟨fun x hx => absurd hx (by simp [crashL]), Nat.le_refl _⟩
  | y :: ys, ks, h => by
    obtain ⟨h1, h2⟩ := crashL_ok (l := ys) ks.tail (fun x hx => h x (List.mem_cons_of_mem _ hx))
    have hy := h y (List.mem_cons_self ..)
    refine ⟨fun x hx => ?_, ?_⟩
    · rcases List.mem_cons.1 hx with rfl | hx
      · exact crashZ_ok hy _
      · exact h1 x hx
    · show ((crashZ size y (ks.headD 0).toNat) :: crashL size ys ks.tail).countP _ ≤ _
      rw [List.countP_cons, List.countP_cons]
      have key : ((crashZ size y (ks.headD 0).toNat).s == 1) = true → (y.s == 1) = true := fun h3 => by
        generalize (ks.headD 0).toNat = k at h3
        rw [beq_iff_eq] at h3 ⊢
        have h3 : (if y.f + min k (y.b.length - y.f) = 0 then 0 else if y.s = 2 ∨ y.f + min k (y.b.length - y.f) = size then 2 else 1) = 1 := h3
        have h4 := hy.s
        have h5 := hy.f
        split at h3
        · omega
        · rename_i h6
          split at h3
          · omega
          · rename_i h7
            rcases Nat.lt_or_ge y.s 1 with h8 | h8
            · have := hy.e (by omega)
              rw [this] at h5 h6
              simp at h5 h6
              omega
            · omega
      by_cases h3 : ((crashZ size y (ks.headD 0).toNat).s == 1) = true
      · rw [if_pos h3, if_pos (key h3)]
        omega
      · rw [if_neg h3]
        omega
theorem wf_crash {m : Dev} (h : WF m) (ks : List Int) : WF (crashM m ks) := by
  obtain ⟨h1, h2⟩ := crashL_ok ks h.z
  have e : (crashM m ks).zs.length = m.zs.length := crashL_length ..
  exact ⟨by rw [e]; exact h.n1, by rw [e]; exact h.n64, h.s16, h.s64, h.o1, by rw [e]; exact h.on, h1, Nat.le_trans h2 h.op⟩
end Go.Proofs.YtihahckjcedceaaDoor
