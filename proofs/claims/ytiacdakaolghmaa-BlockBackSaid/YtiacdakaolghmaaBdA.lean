/-
  Layer 12, the program's own: contracts of Shared and rightEvery; of package sum's Word and Parse; of bytes.Equal.
-/
import Derived.Test.YtiacdakaolghmaaBkX
import Derived.Test.YtiacdakaolghmaaBdN
import Derived.Test.YtiacdakaolghmaaWireA
import Derived.Test.YtiacdakaolghmaaRowZ
namespace Go.Proofs.Ytiacdakaolghmaa
set_option linter.unusedVariables false
open Go.RowKit

set_option maxRecDepth 20000 in
set_option maxHeartbeats 1600000 in
theorem bshared_c (s t : ByteArray) (hs : s.size ≤ maxLen) (ht : t.size ≤ maxLen) (w : World) :
    Calls Try.prog 24 #[.string s, .string t] w (PlainRet (.int .i64 (shL (bs s) (bs t) : Int)) w) := by
  unfold maxLen at hs ht
  obtain ⟨m, hm⟩ : ∃ m, min s.size t.size = m := ⟨_, rfl⟩
  have hmi : min (s.size : Int) (t.size : Int) = (m : Int) := by omega
  have hms : m ≤ s.size := by omega
  have hmt : m ≤ t.size := by omega
  have HM := Lib.hid hm
  clear hm
  go_enter Try.func24, Try.ntmps24
  go_wp2_with fail
  go_loopw [5] (fun i wr => ∃ k : Nat, i = .int .i64 k ∧ k ≤ m ∧ Fr No w wr ∧ shL (bs s) (bs t) = k + shL ((bs s).drop k) ((bs t).drop k)) (fun i _ => m - (intOf i).toNat)
  case atStart => exact ⟨0, rfl, Nat.zero_le _, Fr.refl _ _, by simp⟩
  case round =>
    obtain ⟨k, rfl, hk, hfr, he⟩ := hrel
    have HF := Lib.hid hfr
    have HE := Lib.hid he
    clear hfr he
    by_cases h1 : k < m
    · have hk1 : k < s.size := by omega
      have hk2 : k < t.size := by omega
      have e1 : (bs s).getD k 0 = s[k] := ba_getD s k hk1
      have e2 : (bs t).getD k 0 = t[k] := ba_getD t k hk2
      have ST := sh_step (bs s) (bs t) k (by rw [bs_length]; exact hk1) (by rw [bs_length]; exact hk2) HE.out
      rw [e1, e2] at ST
      have HS := Lib.hid ST
      clear ST e1 e2
      have d0 : decide ((k : Int) < (m : Int)) = true := by rw [decide_eq_true_eq]; omega
      by_cases h3 : s[k] = t[k]
      · have HR := Lib.hid (HS.out.2 h3)
        have h4 : ((s[k].toNat : Int) == (t[k].toNat : Int)) = true := by rw [h3]; simp
        go_wp2_with fail
        go_quiet (fail)
        go_wp2_with fail
        go_roundw
        case rel => exact ⟨k + 1, by simp, by omega, HF.out.drewN _, HR.out⟩
        case measure => simp [intOf]; omega
      · have HR := Lib.hid (HS.out.1 h3)
        have h4 : ((s[k].toNat : Int) == (t[k].toNat : Int)) = false := by
          rw [beq_eq_false_iff_ne]
          exact fun h => h3 (UInt8.toNat_inj.1 (by omega))
        go_wp2_with fail
        go_quiet (fail)
        go_wp2_with fail
        go_ret
        exact ⟨by rw [HR.out]; rfl, HF.out.drewN _⟩
    · have hkm : k = m := by omega
      have HR := Lib.hid (sh_end (bs s) (bs t) k (by rw [bs_length, bs_length]; have := HM.out; omega) HE.out)
      have d0 : decide ((k : Int) < (m : Int)) = false := by rw [decide_eq_false_iff_not]; omega
      go_wp2_with fail
      go_quiet (fail)
      go_wp2_with fail
      go_ret
      exact ⟨by rw [HR.out]; rfl, HF.out.drewN _⟩
def rightE (e : Int) : Bool := decide (1 ≤ e) && decide (e ≤ 64)
set_option maxHeartbeats 400000 in
theorem right_c (e : Int) (w : World) : Calls Try.prog 26 #[.int .i64 e] w fun en w' => en = .returned (.bool (rightE e)) ∧ w = w' := by
  unfold rightE
  by_cases h1 : 1 ≤ e
  · by_cases h2 : e ≤ 64
    · have d1 : decide (e ≥ 1) = true := decide_eq_true h1
      have d2 : decide (e ≤ 64) = true := decide_eq_true h2
      rw [decide_eq_true h1, d2]
      go_enter Try.func26, Try.ntmps26
      go_wp2_with fail
      go_ret
      exact ⟨rfl, rfl⟩
    · have d1 : decide (e ≥ 1) = true := decide_eq_true h1
      have d2 : decide (e ≤ 64) = false := decide_eq_false h2
      rw [decide_eq_true h1, d2]
      go_enter Try.func26, Try.ntmps26
      go_wp2_with fail
      go_ret
      exact ⟨rfl, rfl⟩
  · have d1 : decide (e ≥ 1) = false := decide_eq_false h1
    rw [decide_eq_false h1]
    go_enter Try.func26, Try.ntmps26
    go_wp2_with fail
    go_ret
    exact ⟨rfl, rfl⟩

/-! ### Words. -/
theorem word4_cellsB (c : Nat) (h1 : c < 4294967296) : ((word4 c).map byt).toArray = #[Value.int .u8 ((c : Int) / 16777216), Value.int .u8 ((c : Int) / 65536 % 256), Value.int .u8 ((c : Int) / 256 % 256), Value.int .u8 ((c : Int) % 256)] := by
  have e : ∀ x : Nat, x < 256 → byt (UInt8.ofNat x) = .int .u8 (x : Int) := fun x hx => by
    show Value.int .u8 _ = _
    rw [toNat_ofNat hx]
  unfold word4
  simp only [List.map_cons, List.map_nil]
  rw [e _ (by omega), e _ (by omega), e _ (by omega), e _ (by omega)]
  simp
theorem word4_mod (n : Nat) : word4 (n % 4294967296) = word4 n := by
  have e : ∀ a b : Nat, a % 256 = b % 256 → UInt8.ofNat a = UInt8.ofNat b := fun a b h => by
    apply UInt8.toNat_inj.1
    rw [UInt8.toNat_ofNat', UInt8.toNat_ofNat']
    exact h
  unfold word4
  rw [e (n % 4294967296 / 16777216) (n / 16777216) (by omega), show n % 4294967296 / 65536 % 256 = n / 65536 % 256 by omega, show n % 4294967296 / 256 % 256 = n / 256 % 256 by omega, show n % 4294967296 % 256 = n % 256 by omega]
set_option maxHeartbeats 400000 in
theorem word_b (c : Nat) (h1 : c < 4294967296) (w : World) : Calls Try.prog 41 #[.int .u32 (c : Int)] w (NewRow (word4 c) w) := by
  have E := Lib.hid (word4_cellsB c h1)
  have R := Lib.hid (row_new w (word4 c) (by rw [word4_len]; simp [maxLen]))
  have h2 : (c : Int) / 16777216 % 256 = (c : Int) / 16777216 := by omega
  have F := Lib.hid ((Fr.refl No w).alloc (.cells ((word4 c).map byt).toArray 5))
  go_enter Try.func41, Try.ntmps41
  go_wp2_with fail
  go_ret
  have R := R.out
  have F := F.out
  rw [E.out] at R F
  exact ⟨_, rfl, R, F⟩
def wdB (x y z u : UInt8) : Nat := x.toNat * 16777216 + y.toNat * 65536 + z.toNat * 256 + u.toNat
theorem orB_low (k x y : Nat) (hx : x * 2 ^ k < 4294967296) (hy : y < 2 ^ k) (hk : 2 ^ k ≤ 4294967296) : bits .or .u32 ((x * 2 ^ k : Nat) : Int) (y : Int) = ((x * 2 ^ k + y : Nat) : Int) := by
  have e : x * 2 ^ k ||| y = x * 2 ^ k + y := by
    rw [Nat.mul_comm, ← Nat.two_pow_add_eq_or_of_lt hy]
  have h2 : x * 2 ^ k ||| y < 2 ^ 32 := Nat.or_lt_two_pow (by omega) (by omega)
  show IntKind.u32.wrap ((BitVec.ofInt 32 ((x * 2 ^ k : Nat) : Int) ||| BitVec.ofInt 32 (y : Int)).toNat : Int) = _
  rw [BitVec.toNat_or, BitVec.ofInt_natCast, BitVec.ofInt_natCast, BitVec.toNat_ofNat, BitVec.toNat_ofNat, Nat.mod_eq_of_lt (by omega), Nat.mod_eq_of_lt (by omega), e]
  rw [e] at h2
  obtain ⟨q, hq⟩ : ∃ q, x * 2 ^ k + y = q := ⟨_, rfl⟩
  rw [hq] at h2 ⊢
  simp [IntKind.wrap, IntKind.signed, IntKind.bits]
  omega
theorem orB_word (x y z u : UInt8) :
    bits .or .u32 (bits .or .u32 (bits .or .u32 ((x.toNat : Int) * 16777216) ((y.toNat : Int) * 65536)) ((z.toNat : Int) * 256)) (u.toNat : Int) = ((wdB x y z u : Nat) : Int) := by
  have x0 := x.toNat_lt
  have y0 := y.toNat_lt
  have z0 := z.toNat_lt
  have u0 := u.toNat_lt
  have e1 : bits .or .u32 ((x.toNat : Int) * 16777216) ((y.toNat : Int) * 65536) = (((x.toNat * 256 + y.toNat) * 2 ^ 16 : Nat) : Int) := by
    have h := orB_low 24 x.toNat (y.toNat * 65536) (by omega) (by omega) (by omega)
    have a1 : (x.toNat : Int) * 16777216 = ((x.toNat * 2 ^ 24 : Nat) : Int) := by omega
    have a2 : (y.toNat : Int) * 65536 = ((y.toNat * 65536 : Nat) : Int) := by omega
    rw [a1, a2, h]
    omega
  have e2 : bits .or .u32 (((x.toNat * 256 + y.toNat) * 2 ^ 16 : Nat) : Int) ((z.toNat : Int) * 256) = ((((x.toNat * 256 + y.toNat) * 256 + z.toNat) * 2 ^ 8 : Nat) : Int) := by
    have h := orB_low 16 (x.toNat * 256 + y.toNat) (z.toNat * 256) (by omega) (by omega) (by omega)
    have a2 : (z.toNat : Int) * 256 = ((z.toNat * 256 : Nat) : Int) := by omega
    rw [a2, h]
    omega
  have e3 : bits .or .u32 ((((x.toNat * 256 + y.toNat) * 256 + z.toNat) * 2 ^ 8 : Nat) : Int) (u.toNat : Int) = ((wdB x y z u : Nat) : Int) := by
    have h := orB_low 8 ((x.toNat * 256 + y.toNat) * 256 + z.toNat) u.toNat (by omega) (by omega) (by omega)
    rw [h]
    unfold wdB
    omega
  rw [e1, e2, e3]
theorem wdB_word4 {n : Nat} (h : n < 4294967296) {x y z u : UInt8} (e : word4 n = [x, y, z, u]) : wdB x y z u = n := by
  unfold word4 at e
  simp only [List.cons.injEq, and_true] at e
  obtain ⟨rfl, rfl, rfl, rfl⟩ := e
  unfold wdB
  rw [toNat_ofNat (by omega), toNat_ofNat (by omega), toNat_ofNat (by omega), toNat_ofNat (by omega)]
  omega
theorem wdB_lt (x y z u : UInt8) : wdB x y z u < 4294967296 := by
  have x0 := x.toNat_lt
  have y0 := y.toNat_lt
  have z0 := z.toNat_lt
  have u0 := u.toNat_lt
  unfold wdB
  omega
set_option maxHeartbeats 400000 in
theorem parse_b (a : Option Addr) (cap : Nat) (x y z u : UInt8) (w : World) (hr : Rd w a [x, y, z, u]) :
    Calls Try.prog 43 #[.slice a 4 cap] w fun e w' => e = .returned (.tuple #[.int .u32 (wdB x y z u : Int), .int .i64 0]) ∧ Fr No w w' := by
  obtain ⟨b, o, rfl, hc⟩ := hr (by simp)
  have c0 := hc 0 (by simp)
  have c1 := hc 1 (by simp)
  have c2 := hc 2 (by simp)
  have c3 := hc 3 (by simp)
  simp at c0 c1 c2 c3
  have x0 := x.toNat_lt
  have y0 := y.toNat_lt
  have z0 := z.toNat_lt
  have u0 := u.toNat_lt
  have E := Lib.hid (orB_word x y z u)
  clear hc hr
  go_enter Try.func43, Try.ntmps43
  go_wp2_with fail
  go_quiet (fail)
  go_wp2_with fail
  go_ret2
  refine ⟨?_, (Fr.refl _ _).drewN _⟩
  rw [← E.out]
  rfl
set_option maxHeartbeats 400000 in
theorem equalB_c (a a' : Option Addr) (len cap len' cap' : Nat) (l l' : List UInt8) (w : World) (hl : l.length = len) (hl' : l'.length = len') (hr : Rd w a l) (hr' : Rd w a' l') :
    Calls Try.prog 35 #[.slice a len cap, .slice a' len' cap'] w fun e w' => e = .returned (.bool (l == l')) ∧ w = w' := by
  have h1 := conv_rd w a len cap l hl hr
  have h2 := conv_rd w a' len' cap' l' hl' hr'
  have t1 := strOf_toList l
  have t2 := strOf_toList l'
  clear hl hl' hr hr'
  go_enter Try.func35, Try.ntmps35
  go_wp2_with fail
  go_ret
  exact ⟨rfl, rfl⟩
end Go.Proofs.Ytiacdakaolghmaa
