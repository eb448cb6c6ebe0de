/-
  Plain mathematics of layer 4: bits within bytes. No program is named.
-/
import Derived.Test.YtbglicndccdaiaaDoorBlB
import Derived.Test.YtbglicndccdaiaaDoorBlE
import Derived.Lib.BitFns
namespace Go.Proofs.YtbglicndccdaiaaDoor
set_option linter.unusedVariables false

def bitB (bs : List UInt8) (i : Nat) : Bool := (bs.getD (i / 8) 0).toNat.testBit (i % 8)
def putB (bs : List UInt8) (i : Nat) : List UInt8 := bs.set (i / 8) (UInt8.ofNat ((bs.getD (i / 8) 0).toNat ||| 2 ^ (i % 8)))
def putAll (bs : List UInt8) (ps : List Nat) : List UInt8 := ps.foldl putB bs
def hasB (bs : List UInt8) (ps : List Nat) : Bool := ps.all (bitB bs)

theorem putB_length (bs : List UInt8) (i : Nat) : (putB bs i).length = bs.length := by simp [putB]
theorem putAll_length (ps : List Nat) : ∀ bs : List UInt8, (putAll bs ps).length = bs.length := by
  induction ps with
  | nil => intro bs; rfl
  | cons i ps ih => intro bs; exact (ih (putB bs i)).trans (putB_length bs i)
theorem putAll_snoc (bs : List UInt8) (ps : List Nat) (i : Nat) : putAll bs (ps ++ [i]) = putB (putAll bs ps) i := by simp [putAll]
theorem putAll_append (bs : List UInt8) (ps qs : List Nat) : putAll bs (ps ++ qs) = putAll (putAll bs ps) qs := by simp [putAll]
theorem u8_lt (x : UInt8) : x.toNat < 256 := x.toNat_lt
theorem or_lt256 (x k : Nat) (h : x < 256) (hk : k < 8) : x ||| 2 ^ k < 256 := by
  have : 2 ^ k < 2 ^ 8 := Nat.pow_lt_pow_right (by decide) hk
  exact Nat.or_lt_two_pow (n := 8) h this
theorem toNat_of (n : Nat) (h : n < 256) : (UInt8.ofNat n).toNat = n := by
  rw [UInt8.toNat_ofNat']
  omega
theorem getD_set (l : List UInt8) (i j : Nat) (v : UInt8) (h : i < l.length) : (l.set i v).getD j 0 = if i = j then v else l.getD j 0 := by
  simp only [List.getD_eq_getElem?_getD, List.getElem?_set]
  by_cases e : i = j
  · subst e; simp [h]
  · simp [e]
theorem bitB_putB (bs : List UInt8) (i j : Nat) (h : i < 8 * bs.length) : bitB (putB bs i) j = (bitB bs j || decide (i = j)) := by
  unfold bitB putB
  rw [getD_set _ _ _ _ (by omega)]
  have hx := u8_lt (bs.getD (i / 8) 0)
  have hlt := or_lt256 _ (i % 8) hx (by omega)
  by_cases e : i / 8 = j / 8
  · rw [if_pos e, toNat_of _ hlt, Nat.testBit_or, Nat.testBit_two_pow, e]
    congr 1
    exact decide_eq_decide.2 (by omega)
  · rw [if_neg e]
    have : i ≠ j := fun h => e (by rw [h])
    simp [this]
theorem bitB_putAll (ps : List Nat) : ∀ (bs : List UInt8) (j : Nat), (∀ i ∈ ps, i < 8 * bs.length) → bitB (putAll bs ps) j = (bitB bs j || decide (j ∈ ps)) := by
  induction ps with
  | nil => intro bs j _; simp [putAll]
  | cons i ps ih =>
    intro bs j h
    have h1 := ih (putB bs i) j (fun x hx => by rw [putB_length]; exact h x (List.mem_cons_of_mem _ hx))
    have h2 := bitB_putB bs i j (h i (List.mem_cons_self ..))
    show bitB (putAll (putB bs i) ps) j = _
    rw [h1, h2, Bool.or_assoc]
    congr 1
    rw [Bool.eq_iff_iff, Bool.or_eq_true, decide_eq_true_eq, decide_eq_true_eq, decide_eq_true_eq, List.mem_cons]
    exact ⟨fun h => h.elim (fun e => .inl e.symm) .inr, fun h => h.elim (fun e => .inl e.symm) .inr⟩
/-- A filter holds each bit of what was put. -/
theorem hasB_put (bs : List UInt8) (ps : List Nat) (h : ∀ i ∈ ps, i < 8 * bs.length) : hasB (putAll bs ps) ps = true := by
  unfold hasB
  rw [List.all_eq_true]
  intro i hi
  rw [bitB_putAll ps bs i h]
  simp [hi]
theorem hasB_more (bs : List UInt8) (ps qs : List Nat) (h : ∀ i ∈ ps, i < 8 * bs.length) (hq : hasB bs qs = true) : hasB (putAll bs ps) qs = true := by
  unfold hasB at *
  rw [List.all_eq_true] at *
  intro i hi
  rw [bitB_putAll ps bs i h, hq i hi]
  rfl

/-- The bits, one behind the other. -/
def bits8 (b : UInt8) : List Bool := [b.toNat.testBit 0, b.toNat.testBit 1, b.toNat.testBit 2, b.toNat.testBit 3, b.toNat.testBit 4, b.toNat.testBit 5, b.toNat.testBit 6, b.toNat.testBit 7]
def bitsOf : List UInt8 → List Bool
  | [] => []
  | b :: bs => bits8 b ++ bitsOf bs
theorem bits8_get (b : UInt8) (i : Nat) (h : i < 8) : (bits8 b).getD i false = b.toNat.testBit i := by
  rcases i with _ | _ | _ | _ | _ | _ | _ | _ | i <;> first | rfl | omega
theorem bitsOf_length (bs : List UInt8) : (bitsOf bs).length = 8 * bs.length := by
  induction bs with
  | nil => rfl
  | cons b bs ih => simp only [bitsOf, List.length_append, ih, List.length_cons]; simp [bits8]; omega
theorem bitsOf_get (bs : List UInt8) : ∀ i, (bitsOf bs).getD i false = bitB bs i := by
  induction bs with
  | nil => intro i; simp [bitsOf, bitB]
  | cons b bs ih =>
    intro i
    have hl : (bits8 b).length = 8 := rfl
    rcases Nat.lt_or_ge i 8 with h | h
    · have : (bitsOf (b :: bs)).getD i false = (bits8 b).getD i false := by
        simp only [bitsOf, List.getD_eq_getElem?_getD]
        rw [List.getElem?_append_left (by rw [hl]; exact h)]
      rw [this, bits8_get b i h]
      unfold bitB
      rw [show i / 8 = 0 by omega, show i % 8 = i by omega]
      rfl
    · have : (bitsOf (b :: bs)).getD i false = (bitsOf bs).getD (i - 8) false := by
        simp only [bitsOf, List.getD_eq_getElem?_getD]
        rw [List.getElem?_append_right (by rw [hl]; exact h), hl]
      rw [this, ih]
      unfold bitB
      rw [show i / 8 = (i - 8) / 8 + 1 by omega, show (i - 8) % 8 = i % 8 by omega]
      rfl
theorem bools_ext (x y : List Bool) (hl : x.length = y.length) (h : ∀ i, i < x.length → x.getD i false = y.getD i false) : x = y := by
  apply List.ext_getElem hl
  intro i h1 h2
  have := h i h1
  simpa [List.getD, h1, h2] using this
theorem bitsOf_put (bs : List UInt8) (i : Nat) (h : i < 8 * bs.length) : (bitsOf bs).set i true = bitsOf (putB bs i) := by
  apply bools_ext
  · rw [List.length_set, bitsOf_length, bitsOf_length, putB_length]
  · intro j hj
    rw [List.length_set, bitsOf_length] at hj
    rw [bitsOf_get, bitB_putB bs i j h, ← bitsOf_get bs j]
    simp only [List.getD_eq_getElem?_getD, List.getElem?_set]
    by_cases e : i = j
    · subst e; simp [bitsOf_length, hj]
    · simp [e]
theorem bitsOf_putAll (ps : List Nat) : ∀ (bs : List UInt8), (∀ i ∈ ps, i < 8 * bs.length) → setAll (bitsOf bs) ps = bitsOf (putAll bs ps) := by
  induction ps with
  | nil => intro bs _; rfl
  | cons i ps ih =>
    intro bs h
    show setAll ((bitsOf bs).set i true) ps = bitsOf (putAll (putB bs i) ps)
    rw [bitsOf_put bs i (h i (List.mem_cons_self ..))]
    exact ih (putB bs i) fun x hx => by rw [putB_length]; exact h x (List.mem_cons_of_mem _ hx)
theorem bitsOf_has (bs : List UInt8) (ps : List Nat) : hasAll (bitsOf bs) ps = hasB bs ps := by
  unfold hasAll hasB
  congr 1
  funext i
  exact bitsOf_get bs i
theorem bitsOf_zero (n : Nat) : bitsOf (List.replicate n 0) = List.replicate (8 * n) false := by
  induction n with
  | zero => rfl
  | succ n ih =>
    rw [List.replicate_succ, bitsOf, ih, show 8 * (n + 1) = 8 + 8 * n by omega, ← List.replicate_append_replicate]
    rfl
/-- Bytes of as many bits are one where all bits are. -/
theorem byte_ext (x y : UInt8) (h : ∀ i, i < 8 → x.toNat.testBit i = y.toNat.testBit i) : x = y := by
  apply UInt8.toNat_inj.1
  apply Nat.eq_of_testBit_eq
  intro i
  rcases Nat.lt_or_ge i 8 with h1 | h1
  · exact h i h1
  · have hp : 2 ^ 8 ≤ 2 ^ i := Nat.pow_le_pow_right (by decide) h1
    rw [Nat.testBit_lt_two_pow (Nat.lt_of_lt_of_le (u8_lt x) hp), Nat.testBit_lt_two_pow (Nat.lt_of_lt_of_le (u8_lt y) hp)]
theorem bytes_ext (x y : List UInt8) (hl : x.length = y.length) (h : ∀ i, i < 8 * x.length → bitB x i = bitB y i) : x = y := by
  apply List.ext_getElem hl
  intro i h1 h2
  apply byte_ext
  intro k hk
  have := h (8 * i + k) (by omega)
  unfold bitB at this
  rw [show (8 * i + k) / 8 = i by omega, show (8 * i + k) % 8 = k by omega] at this
  simpa [List.getD, h1, h2] using this

/-- How many bits are set. -/
def popB (b : UInt8) : Nat := (bits8 b).count true
def setN : List UInt8 → Nat
  | [] => 0
  | b :: bs => popB b + setN bs
theorem ones_pop : ∀ n : Fin 256, Lib.onesCount n.val = [n.val.testBit 0, n.val.testBit 1, n.val.testBit 2, n.val.testBit 3, n.val.testBit 4, n.val.testBit 5, n.val.testBit 6, n.val.testBit 7].count true := by decide +kernel
theorem popB_ones (b : UInt8) : Lib.onesCount b.toNat = popB b := ones_pop ⟨b.toNat, u8_lt b⟩
theorem popB_le (b : UInt8) : popB b ≤ 8 := List.count_le_length
theorem setN_append (x y : List UInt8) : setN (x ++ y) = setN x + setN y := by
  induction x with
  | nil => simp [setN]
  | cons b x ih => rw [List.cons_append, setN, ih, setN]; omega
theorem setN_count (bs : List UInt8) : (bitsOf bs).count true = setN bs := by
  induction bs with
  | nil => rfl
  | cons b bs ih => rw [bitsOf, List.count_append, ih]; rfl
theorem setN_le (bs : List UInt8) : setN bs ≤ 8 * bs.length := by
  rw [← setN_count, ← bitsOf_length]
  exact List.count_le_length
theorem count_set (l : List Bool) : ∀ i : Nat, l.count true ≤ (l.set i true).count true := by
  induction l with
  | nil => intro i; simp
  | cons a l ih =>
    intro i
    cases i with
    | zero => cases a <;> simp
    | succ i => rw [List.set_cons_succ, List.count_cons, List.count_cons]; have := ih i; omega
theorem setN_put (bs : List UInt8) (i : Nat) (h : i < 8 * bs.length) : setN bs ≤ setN (putB bs i) := by
  rw [← setN_count, ← setN_count, ← bitsOf_put bs i h]
  exact count_set _ _
theorem setN_putAll (ps : List Nat) : ∀ (bs : List UInt8), (∀ i ∈ ps, i < 8 * bs.length) → setN bs ≤ setN (putAll bs ps) := by
  induction ps with
  | nil => intro bs _; exact Nat.le_refl _
  | cons i ps ih =>
    intro bs h
    exact Nat.le_trans (setN_put bs i (h i (List.mem_cons_self ..))) (ih (putB bs i) fun x hx => by rw [putB_length]; exact h x (List.mem_cons_of_mem _ hx))
theorem setN_pos (bs : List UInt8) (i : Nat) (h : bitB bs i = true) : 0 < setN bs := by
  rw [← setN_count]
  rw [← bitsOf_get] at h
  apply List.count_pos_iff.2
  rcases Nat.lt_or_ge i (bitsOf bs).length with h1 | h1
  · have : (bitsOf bs)[i] = true := by simpa [List.getD, h1] using h
    rw [← this]
    exact List.getElem_mem h1
  · rw [List.getD_eq_getElem?_getD, List.getElem?_eq_none h1] at h
    cases h
theorem setN_zero (n : Nat) : setN (List.replicate n 0) = 0 := by
  rw [← setN_count, bitsOf_zero]
  simp [List.count_replicate]
theorem bitB_zero (n i : Nat) : bitB (List.replicate n 0) i = false := by
  rw [← bitsOf_get, bitsOf_zero]
  simp only [List.getD_eq_getElem?_getD, List.getElem?_replicate]
  split <;> rfl
theorem hasB_zero (n : Nat) (ps : List Nat) (h : ps ≠ []) : hasB (List.replicate n 0) ps = false := by
  cases ps with
  | nil => exact absurd rfl h
  | cons i ps => simp [hasB, bitB_zero]
/-- Eight bits make their byte. -/
theorem byte_sum : ∀ x : Fin 256, ((((((((0 * 2 + (x.val.testBit 7).toNat) * 2 + (x.val.testBit 6).toNat) * 2 + (x.val.testBit 5).toNat) * 2 + (x.val.testBit 4).toNat) * 2 + (x.val.testBit 3).toNat) * 2 + (x.val.testBit 2).toNat) * 2 + (x.val.testBit 1).toNat) * 2 + (x.val.testBit 0).toNat) = x.val := by decide +kernel
theorem bitN_of (bs : List UInt8) (i : Nat) : bitN (bitsOf bs) i = (bitB bs i).toNat := by
  unfold bitN
  rw [bitsOf_get]
  cases bitB bs i <;> rfl
theorem bitB_at (bs : List UInt8) (r k : Nat) (hk : k < 8) : bitB bs (8 * r + k) = (bs.getD r 0).toNat.testBit k := by
  unfold bitB
  rw [show (8 * r + k) / 8 = r by omega, show (8 * r + k) % 8 = k by omega]
theorem vb_byte (bs : List UInt8) (r : Nat) : vb (bitsOf bs) (8 * r) 8 = (bs.getD r 0).toNat := by
  simp only [vb, bitN_of]
  rw [show 8 * r + 7 - 0 = 8 * r + 7 by omega, show 8 * r + 7 - 1 = 8 * r + 6 by omega, show 8 * r + 7 - 2 = 8 * r + 5 by omega, show 8 * r + 7 - 3 = 8 * r + 4 by omega, show 8 * r + 7 - 4 = 8 * r + 3 by omega, show 8 * r + 7 - 5 = 8 * r + 2 by omega, show 8 * r + 7 - 6 = 8 * r + 1 by omega, show 8 * r + 7 - 7 = 8 * r + 0 by omega]
  rw [bitB_at _ _ _ (by decide), bitB_at _ _ _ (by decide), bitB_at _ _ _ (by decide), bitB_at _ _ _ (by decide), bitB_at _ _ _ (by decide), bitB_at _ _ _ (by decide), bitB_at _ _ _ (by decide), bitB_at _ _ _ (by decide)]
  exact byte_sum ⟨_, u8_lt (bs.getD r 0)⟩
/-- The document's bytes of the same bits. -/
theorem filB_bits (bs : List UInt8) (p : Nat) : filB (bitsOf bs) p bs.length = UInt8.ofNat p :: bs := by
  unfold filB
  congr 1
  apply List.ext_getElem
  · simp
  · intro i h1 h2
    simp only [List.getElem_map, List.getElem_range, vb_byte]
    rw [UInt8.ofNat_toNat]
    simp [List.getD, h2]
/-- A law's last place within the bytes. -/
theorem places_in (l : List UInt8) (bs : List UInt8) (n : Nat) (h : 0 < bs.length) : ∀ i ∈ places l (8 * bs.length) n, i < 8 * bs.length := places_lt l _ n (by omega)
end Go.Proofs.YtbglicndccdaiaaDoor
