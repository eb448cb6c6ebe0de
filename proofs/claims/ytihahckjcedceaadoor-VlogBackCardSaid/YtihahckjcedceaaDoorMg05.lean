/-
  Texts of layer 14 and of what it stands on, one behind the other.
-/
import Derived.Test.YtihahckjcedceaaDoorMg03
import Derived.Test.YtihahckjcedceaaDoorMg01
import Derived.WalkLawsBesides
import Derived.Deep.QuietTactic
import Derived.BigQuiet
import Derived.Lib.Hide

/- Contracts of layer 2's plain functions: Size, number, the document's Number and Read, clone, Same. -/
namespace Go.Proofs.YtihahckjcedceaaDoor
set_option linter.unusedVariables false
open Go.RowKit

def decI (l : List UInt8) : Int × Int := match dec 9 0 l with | none => (-1, -1) | some (n, k) => ((n : Int), (k : Int))
def comb (k q : Nat) (o : Option (Nat × Nat)) : Int × Int := match o with | none => (-1, -1) | some (n, s) => ((q : Int) + 128 ^ k * n, (k : Int) + s)
def retII (p : Int × Int) : Ending := .returned (.tuple #[.int .i64 p.1, .int .i64 p.2])

theorem and127 (x : Nat) (h : x < 256) : bits .and .u8 (x : Int) 127 = ((x % 128 : Nat) : Int) := by
  have : ∀ y : Fin 256, bits .and .u8 (y.val : Int) 127 = ((y.val % 128 : Nat) : Int) := by decide +kernel
  exact this ⟨x, h⟩
theorem and128_lo (x : Nat) (h : x < 128) : bits .and .u8 (x : Int) 128 = 0 := by
  have : ∀ y : Fin 128, bits .and .u8 (y.val : Int) 128 = 0 := by decide +kernel
  exact this ⟨x, h⟩
theorem and128_hi (x : Nat) (h : 128 ≤ x) (h' : x < 256) : bits .and .u8 (x : Int) 128 = 128 := by
  have : ∀ y : Fin 128, bits .and .u8 ((y.val + 128 : Nat) : Int) 128 = 128 := by decide +kernel
  have e := this ⟨x - 128, by omega⟩
  simpa [Nat.sub_add_cancel h] using e
theorem ofInt64 (a : Nat) (ha : a < 9223372036854775808) : (BitVec.ofInt 64 (a : Int)).toNat = a := by
  rw [BitVec.ofInt_natCast, BitVec.toNat_ofNat]
  exact Nat.mod_eq_of_lt (by omega)
theorem or_i64 (a b : Nat) (ha : a < 9223372036854775808) (hb : b < 9223372036854775808) : bits .or .i64 (a : Int) (b : Int) = ((a ||| b : Nat) : Int) := by
  have hx : a ||| b < 2 ^ 63 := Nat.or_lt_two_pow (by omega) (by omega)
  show IntKind.i64.wrap ((BitVec.ofInt 64 (a : Int) ||| BitVec.ofInt 64 (b : Int)).toNat : Int) = _
  rw [BitVec.toNat_or, ofInt64 a ha, ofInt64 b hb, IntKind.wrap_i64]
  omega
theorem and_i64 (a b : Nat) (ha : a < 9223372036854775808) (hb : b < 9223372036854775808) : bits .and .i64 (a : Int) (b : Int) = ((a &&& b : Nat) : Int) := by
  have hx : a &&& b < 2 ^ 63 := Nat.and_lt_two_pow _ (by omega)
  show IntKind.i64.wrap ((BitVec.ofInt 64 (a : Int) &&& BitVec.ofInt 64 (b : Int)).toNat : Int) = _
  rw [BitVec.toNat_and, ofInt64 a ha, ofInt64 b hb, IntKind.wrap_i64]
  omega
theorem or_low (q y k : Nat) (hq : q < 128 ^ k) : q ||| y * 128 ^ k = q + y * 128 ^ k := by
  have e : (128 : Nat) ^ k = 2 ^ (7 * k) := by rw [Nat.pow_mul]
  rw [e] at hq ⊢
  have h := Nat.shiftLeft_add_eq_or_of_lt hq y
  rw [Nat.shiftLeft_eq] at h
  rw [Nat.or_comm, Nat.add_comm]
  exact h.symm
theorem pow_le9 (k : Nat) (hk : k ≤ 9) : 128 ^ k ≤ 9223372036854775808 := by
  have := Nat.pow_le_pow_right (show 0 < 128 by decide) hk
  simpa using this
theorem next_lt (q y k : Nat) (hq : q < 128 ^ k) (hy : y < 128) : q + y * 128 ^ k < 128 ^ (k + 1) := by
  have h : (y + 1) * 128 ^ k ≤ 128 * 128 ^ k := Nat.mul_le_mul_right _ hy
  rw [Nat.add_mul, Nat.one_mul] at h
  rw [Nat.pow_succ]
  omega
/-- One group more. -/
theorem comb_more (k q : Nat) (c : UInt8) (l : List UInt8) (hk : k < 9) (hc : 128 ≤ c.toNat) (hl : l.drop k = c :: l.drop (k + 1)) :
    comb k q (dec (9 - k) k (l.drop k)) = comb (k + 1) (q + c.toNat % 128 * 128 ^ k) (dec (9 - (k + 1)) (k + 1) (l.drop (k + 1))) := by
  obtain ⟨f, hf⟩ : ∃ f, 9 - k = f + 1 := ⟨8 - k, by omega⟩
  have hf2 : 9 - (k + 1) = f := by omega
  rw [hf, hf2, hl, dec_cons, if_neg (by omega)]
  cases dec f (k + 1) (l.drop (k + 1)) with
  | none => rfl
  | some p =>
    have hm : c.toNat % 128 = c.toNat - 128 := by have := c.toNat_lt; omega
    simp only [Option.map_some, comb, Prod.mk.injEq]
    rw [hm]
    generalize c.toNat - 128 = y
    constructor
    · rw [Int.natCast_add, Int.natCast_mul, Int.natCast_add, Int.natCast_mul, Int.natCast_pow, Int.mul_add, ← Int.mul_assoc, Int.pow_succ]
      rw [Int.mul_comm (y : Int), Int.add_assoc]
      rfl
    · omega
theorem comb_end (k q : Nat) (c : UInt8) (l : List UInt8) (hk : k < 9) (hc : c.toNat < 128) (hl : l.drop k = c :: l.drop (k + 1)) :
    comb k q (dec (9 - k) k (l.drop k)) = if c.toNat = 0 ∧ 0 < k then (-1, -1) else (((q + c.toNat * 128 ^ k : Nat) : Int), (k : Int) + 1) := by
  obtain ⟨f, hf⟩ : ∃ f, 9 - k = f + 1 := ⟨8 - k, by omega⟩
  rw [hf, hl, dec_cons, if_pos hc]
  split
  · rfl
  · simp only [comb, Prod.mk.injEq]
    refine ⟨?_, by omega⟩
    rw [Int.natCast_add, Int.natCast_mul, Int.natCast_pow, Int.mul_comm]
    rfl
theorem drop_at (l : List UInt8) (k : Nat) (h : k < l.length) : l.drop k = l.getD k 0 :: l.drop (k + 1) := by
  rw [List.drop_eq_getElem_cons h]
  simp [List.getD, h]
theorem shl_i (y k : Nat) : (y : Int) * 2 ^ (k * 7) = ((y * 128 ^ k : Nat) : Int) := by
  rw [Int.natCast_mul, Int.natCast_pow, Nat.mul_comm k 7, Int.pow_mul]
  rfl

set_option maxHeartbeats 400000 in
theorem number_c (a : Option Addr) (len cap : Nat) (l : List UInt8) (w : World) (hl : l.length = len) (hm : len ≤ maxLen) (hr : Rd w a l) :
    Calls Tryd.prog 62 #[.slice a len cap] w fun e w' => e = retII (decI l) ∧ w = w' := by
  unfold maxLen at hm
  have H := Lib.hid hl
  clear hl
  go_enter Tryd.func62, Tryd.ntmps62
  obtain ⟨m, hmin⟩ : ∃ m : Nat, min (len : Int) 9 = (m : Int) := ⟨min len 9, by omega⟩
  have hm9 : m ≤ 9 := by omega
  have hml : m ≤ len := by omega
  have Hm : Hid (m = 9 ∨ m = len) := Lib.hid (by omega)
  go_wp2_with fail
  clear hmin
  go_loop [2, 8] (fun n i => ∃ (k q : Nat), k ≤ m ∧ i = .int .i64 k ∧ n = .int .i64 q ∧ q < 128 ^ k ∧ decI l = comb k q (dec (9 - k) k (l.drop k))) (fun _ i => m - (intOf i).toNat)
  case atStart =>
    refine ⟨0, 0, Nat.zero_le _, rfl, rfl, by decide, ?_⟩
    unfold decI comb
    rw [List.drop_zero, Nat.sub_zero]
    cases dec 9 0 l with
    | none => rfl
    | some p => simp
  case round =>
    obtain ⟨k, q, hk, rfl, rfl, hq, hd⟩ := hrel
    have Hq := Lib.hid hq
    have Hd := Lib.hid hd
    clear hd
    by_cases hlt : k < m
    · obtain ⟨b, o, rfl, hcell⟩ := hr (by have := H.out; omega)
      have hx := hcell k (by have := H.out; omega)
      clear hcell hr
      have hdr := drop_at l k (by have := H.out; omega)
      have Hdr := Lib.hid hdr
      clear hdr
      generalize hgc : l.getD k 0 = c at hx Hdr
      have Hc := Lib.hid hgc
      clear hgc
      have hxl := c.toNat_lt
      have p9 := pow_le9 (k + 1) (by omega)
      have nl := next_lt q (c.toNat % 128) k hq (by omega)
      have ol := or_low q (c.toNat % 128) k hq
      have e1 := and127 c.toNat hxl
      have e2 := shl_i (c.toNat % 128) k
      have hq9 : q < 128 ^ (k + 1) := by rw [Nat.pow_succ]; omega
      have hz9 : c.toNat % 128 * 128 ^ k < 128 ^ (k + 1) := by omega
      have e3 := or_i64 q (c.toNat % 128 * 128 ^ k) (by omega) (by omega)
      rw [ol] at e3
      have Hn := Lib.hid nl
      have hm128 : c.toNat % 128 < 128 := Nat.mod_lt _ (by decide)
      generalize hz : c.toNat % 128 * 128 ^ k = z at *
      generalize hy : c.toNat % 128 = y at *
      have Hz := Lib.hid hz
      have Hy := Lib.hid hy
      have hr63 : q + z < 9223372036854775808 := by omega
      have hz63 : z < 9223372036854775808 := by omega
      have hq63 : q < 9223372036854775808 := by omega
      generalize hrr : q + z = r at *
      have Hr := Lib.hid hrr
      clear hz hy hrr p9 nl ol hq hq9 hz9
      by_cases h128 : c.toNat < 128
      · have e4 := and128_lo c.toNat h128
        have Hce := Lib.hid (comb_end k q c l (by omega) h128 Hdr.out)
        have hy' : y = c.toNat := by have := Hy.out; omega
        have Hy' := Lib.hid hy'
        clear hy'
        by_cases h0 : c.toNat = 0
        · have hb0 : ((c.toNat : Int) == 0) = true := by rw [h0]; rfl
          have H0 := Lib.hid h0
          clear h0
          by_cases hk0 : 0 < k
          · go_wp2_with fail
            go_ret2
            exact ⟨by rw [Hd.out, Hce.out, if_pos ⟨H0.out, hk0⟩]; rfl, rfl⟩
          · go_wp2_with fail
            go_ret2
            exact ⟨by rw [Hd.out, Hce.out, if_neg (fun h => hk0 h.2), ← Hr.out, ← Hz.out, Hy'.out]; rfl, rfl⟩
        · go_wp2_with fail
          go_ret2
          exact ⟨by rw [Hd.out, Hce.out, if_neg (fun h => h0 h.1), ← Hr.out, ← Hz.out, Hy'.out]; rfl, rfl⟩
      · have e4 := and128_hi c.toNat (by omega) hxl
        go_wp2_with fail
        go_round
        case rel => exact ⟨k + 1, r, by omega, by go_num, rfl, Hn.out, by rw [Hd.out, comb_more k q c l (by omega) (by omega) Hdr.out, ← Hr.out, ← Hz.out, ← Hy.out]⟩
        case measure => simp [intOf]; omega
    · have hk' : k = m := by omega
      have Hk := Lib.hid hk'
      clear hk'
      go_wp2_with fail
      go_ret2
      refine ⟨?_, rfl⟩
      have e : dec (9 - k) k (l.drop k) = none := by
        rcases Hm.out with h | h
        · rw [Hk.out, h]; rfl
        · rw [Hk.out, h, ← H.out, List.drop_length]; exact dec_nil _ _
      rw [Hd.out, e]
      rfl
theorem retII_mk {n k : Int} {l : List UInt8} (h : decI l = (n, k)) : Ending.returned (.tuple #[.int .i64 n, .int .i64 k]) = retII (decI l) := by rw [h]; rfl

set_option maxHeartbeats 400000 in
theorem size_neg (n : Int) (w : World) (h : n < 0) : Calls Tryd.prog 47 #[.int .i64 n] w fun e w' => e = .returned (.int .i64 0) ∧ w = w' := by
  go_enter Tryd.func47, Tryd.ntmps47
  go_wp2_with fail
  go_ret
  exact ⟨rfl, rfl⟩
set_option maxHeartbeats 400000 in
theorem size_c (n : Nat) (w : World) (h : n < 9223372036854775808) : Calls Tryd.prog 47 #[.int .i64 (n : Int)] w fun e w' => e = .returned (.int .i64 ((enc n).length : Int)) ∧ w = w' := by
  have e1 := or_i64 n 1 h (by decide)
  have hx : n ||| 1 < 2 ^ 63 := Nat.or_lt_two_pow (by omega) (by decide)
  have hb := enc_bits n h
  have h9 := enc_len9 h
  generalize (enc n).length = L at hb h9
  generalize hm : n ||| 1 = m at *
  have e1 : bits .or .i64 (n : Int) 1 = (m : Int) := e1
  have hL := Lib.hid (Tryd.bits_Len (m : Int) w (by omega) (by omega))
  rw [Int.toNat_natCast] at hL
  obtain ⟨B, hB⟩ : ∃ B, B = Lib.bitLen m := ⟨_, rfl⟩
  rw [← hB] at hL hb
  have Hb := Lib.hid hb
  have hb63 : B ≤ 70 := by omega
  have HBL : Hid (((B : Int) + 7 - 1) / 7 = (L : Int)) := Lib.hid (by omega)
  clear hb hB hm
  go_enter Tryd.func47, Tryd.ntmps47
  go_wp2_with fail
  refine (show Calls _ _ _ _ _ from hL.out).mono ?_
  rintro e w' ⟨rfl, rfl⟩
  go_wp2_with fail
  go_ret
  exact ⟨show Ending.returned (.int .i64 (((B : Int) + 7 - 1) / 7)) = _ by rw [HBL.out], rfl⟩

end Go.Proofs.YtihahckjcedceaaDoor
