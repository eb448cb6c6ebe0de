/-
  Contracts of the rest of package sum: masks, words, and what the statements use besides.
-/
import Derived.Test.YtefkbedpnojibaaDoorSum
import Derived.Lib.SlBytesConst
import Derived.StillTailTactics
import Derived.Deep.QuietTactic
import Derived.BigQuiet
namespace Go.Proofs.YtefkbedpnojibaaDoor
set_option linter.unusedVariables false
open Go.RowKit

theorem Tab.below {w w' : World} {B : Nat} (h : Tab w) (hb : Below B w w') (hB : w.heap.size ≤ B) : Tab w' := fun i hi => by
  have h1 := h i hi
  exact (hb.cell (Nat.lt_of_lt_of_le (cell_block h1) hB)).trans h1

/-- A block that has just been made holds its cells. -/
theorem cell_new (w : World) (C : Array Value) (t : TypeId) (fr : Nat × Nat) (i : Nat) : (w.alloc (.cells C t fr)).cell? ⟨w.heap.size, i, none⟩ = C[i]? :=
  cell_of_row _ _ i C t fr (heap_alloc_new w _)
theorem Rd.new {w : World} {C : Array Value} {t : TypeId} {fr : Nat × Nat} (l : List UInt8) (hC : C = (l.map fun x => Value.int .u8 (x.toNat : Int)).toArray) :
    Rd (w.alloc (.cells C t fr)) (some ⟨w.heap.size, 0, none⟩) l := by
  intro hl
  refine ⟨_, _, rfl, fun i hi => ?_⟩
  rw [Nat.zero_add, cell_new, hC]
  simp [List.getD, hi]

def digits : List UInt8 := [49, 50, 51, 52, 53, 54, 55, 56, 57]
theorem digits_sum : ((Crc.of digits).toNat : Int) = 3808858755 := by decide +kernel

def mk (c : Int) : Int := (c / 32768 + c % 32768 * 131072 + 2726488792) % 4294967296
def um (c : Int) : Int := (c - 2726488792) % 131072 * 32768 + (c - 2726488792) % 4294967296 / 131072

theorem or_add (a b : Nat) (k : Nat) (ha : a < 2 ^ k) : a ||| b * 2 ^ k = a + b * 2 ^ k := by
  have h := Nat.shiftLeft_add_eq_or_of_lt ha b
  rw [Nat.shiftLeft_eq] at h
  rw [Nat.or_comm, Nat.add_comm]
  exact h.symm
theorem or_mask (c : Int) (h0 : 0 ≤ c) (h1 : c ≤ 4294967295) : bits .or .u32 (c / 32768) (c * 131072 % 4294967296) = c / 32768 + c % 32768 * 131072 := by
  obtain ⟨n, rfl⟩ := Int.eq_ofNat_of_zero_le h0
  rw [u32_or _ _ (by omega) (by omega) (by omega) (by omega)]
  have e1 : ((n : Int) / 32768).toNat = n / 32768 := by omega
  have e2 : ((n : Int) * 131072 % 4294967296).toNat = n % 32768 * 2 ^ 17 := by omega
  have e3 : n / 32768 < 2 ^ 17 := by omega
  rw [e1, e2, or_add _ _ 17 e3]
  omega
theorem or_unmask (c : Int) (h0 : 0 ≤ c) (h1 : c ≤ 4294967295) : bits .or .u32 (c * 32768 % 4294967296) (c / 131072) = c % 131072 * 32768 + c / 131072 := by
  obtain ⟨n, rfl⟩ := Int.eq_ofNat_of_zero_le h0
  rw [u32_or _ _ (by omega) (by omega) (by omega) (by omega)]
  have e1 : ((n : Int) / 131072).toNat = n / 131072 := by omega
  have e2 : ((n : Int) * 32768 % 4294967296).toNat = n % 131072 * 2 ^ 15 := by omega
  have e3 : n / 131072 < 2 ^ 15 := by omega
  rw [e1, e2, Nat.or_comm, or_add _ _ 15 e3]
  omega

set_option maxHeartbeats 400000 in
theorem mask_c (c : Int) (w : World) (h0 : 0 ≤ c) (h1 : c ≤ 4294967295) :
    Calls Tryd.prog 14 #[.int .u32 c] w fun e w' => e = .returned (.int .u32 (mk c)) ∧ w = w' := by
  have e := or_mask c h0 h1
  go_enter Tryd.func14, Tryd.ntmps14
  go_wp2_with fail
  go_ret
  exact ⟨rfl, rfl⟩
set_option maxHeartbeats 400000 in
theorem refmask_c (c : Int) (w : World) (_h0 : 0 ≤ c) (_h1 : c ≤ 4294967295) :
    Calls Tryd.prog 15 #[.int .u32 c] w fun e w' => e = .returned (.int .u32 (mk c)) ∧ w = w' := by
  go_enter Tryd.func15, Tryd.ntmps15
  go_wp2_with fail
  go_ret
  exact ⟨rfl, rfl⟩
set_option maxHeartbeats 400000 in
theorem unmask_c (c : Int) (w : World) (h0 : 0 ≤ c) (h1 : c ≤ 4294967295) :
    Calls Tryd.prog 16 #[.int .u32 c] w fun e w' => e = .returned (.int .u32 (um c)) ∧ w = w' := by
  have e := or_unmask ((c - 2726488792) % 4294967296) (by omega) (by omega)
  go_enter Tryd.func16, Tryd.ntmps16
  go_wp2_with fail
  go_ret
  exact ⟨rfl, rfl⟩

set_option maxHeartbeats 400000 in
theorem awake_c (w : World) (ht : Tab w) :
    Calls Tryd.prog 10 #[] w fun e w' => e = .returned (.bool true) ∧ Below w.heap.size w w' := by
  have kc := fun (w : World) (C : Array Value) (n c : Nat) => Lib.run_convert_bytes_const (P := Tryd.prog) w 22 5 C n c Tryd.underlying22 Tryd.underlying5
  have hb := fun o => (Below.refl w.heap.size w).alloc (Nat.le_refl _) o
  have HT := Lib.hid ht
  clear ht
  go_enter Tryd.func10, Tryd.ntmps10
  go_wp2_with fail
  clear kc
  refine (of_c _ 9 9 digits _ rfl (by decide) (Rd.new digits rfl) (HT.out.below (hb _) (Nat.le_refl _))).mono ?_
  rw [digits_sum]
  rintro e w' ⟨rfl, rfl⟩
  go_wp2_with fail
  refine (mask_c 3808858755 _ (by decide) (by decide)).mono ?_
  rw [show mk 3808858755 = 3347755237 by decide]
  rintro e w' ⟨rfl, rfl⟩
  go_wp2_with fail
  go_ret
  exact ⟨rfl, hb _⟩

theorem mk_bound (c : Int) : 0 ≤ mk c ∧ mk c ≤ 4294967295 := by unfold mk; omega
theorem um_bound (c : Int) : 0 ≤ um c ∧ um c ≤ 4294967295 := by unfold um; omega
theorem um_mk (c : Int) (h0 : 0 ≤ c) (h1 : c ≤ 4294967295) : um (mk c) = c := by
  have e1 : (mk c - 2726488792) % 4294967296 = c / 32768 + c % 32768 * 131072 := by unfold mk; omega
  have e2 : (mk c - 2726488792) % 131072 = c / 32768 := by omega
  unfold um
  rw [e1, e2]
  omega
theorem mk_um (c : Int) (h0 : 0 ≤ c) (h1 : c ≤ 4294967295) : mk (um c) = c := by
  obtain ⟨y, hy⟩ : ∃ y, y = (c - 2726488792) % 4294967296 := ⟨_, rfl⟩
  have e1 : um c = y % 131072 * 32768 + y / 131072 := by unfold um; omega
  have e2 : um c / 32768 = y % 131072 := by omega
  have e3 : um c % 32768 = y / 131072 := by omega
  unfold mk
  rw [e2, e3]
  omega
theorem mk_inj (c d : Int) (h0 : 0 ≤ c) (h1 : c ≤ 4294967295) (g0 : 0 ≤ d) (g1 : d ≤ 4294967295) (h : mk c = mk d) : c = d := by
  rw [← um_mk c h0 h1, ← um_mk d g0 g1, h]
theorem bounds_u32 {c : Int} (h : (Lit.int .u32 c).wf = true) : 0 ≤ c ∧ c ≤ 4294967295 := by
  simp [Lit.wf, IntKind.min, IntKind.max, IntKind.signed, IntKind.bits] at h
  omega
theorem bounds_u8 {c : Int} (h : (Lit.int .u8 c).wf = true) : 0 ≤ c ∧ c ≤ 255 := by
  simp [Lit.wf, IntKind.min, IntKind.max, IntKind.signed, IntKind.bits] at h
  omega
theorem bounds_i64 {c : Int} (h : (Lit.int .i64 c).wf = true) : -9223372036854775808 ≤ c ∧ c ≤ 9223372036854775807 := by
  simp [Lit.wf, IntKind.min, IntKind.max, IntKind.signed, IntKind.bits] at h
  omega

/-! ### The statements' own walks. -/
set_option maxHeartbeats 400000 in
theorem sumIs_walk (w : World) (ht : Tab w) (a : Option Addr) (len cap : Nat) (l : List UInt8) (hl : l.length = len) (_hc : len ≤ cap) (_hm : cap ≤ maxLen) (hr : Rd w a l) :
    Calls Tryd.prog 3 #[.slice a len cap] w fun e w' => e = .returned (.bool true) ∧ Below w.heap.size w w' := by
  have A := Lib.hid (awake_c w ht)
  by_cases h5 : 5000 < len
  · clear hl hr ht
    go_enter Tryd.func3, Tryd.ntmps3
    go_wp2_with fail
    refine (show Calls _ _ _ _ _ from A.out).mono ?_
    rintro e w' ⟨rfl, hb⟩
    go_wp2_with fail
    go_ret
    exact ⟨rfl, hb⟩
  · have H1 := Lib.hid (of_c a len cap l w hl (by omega) hr ht)
    have H2 := Lib.hid (refof_c a len cap l w hl (by omega) hr)
    clear hl hr ht
    go_enter Tryd.func3, Tryd.ntmps3
    go_wp2_with fail
    refine (show Calls _ _ _ _ _ from H1.out).mono ?_
    rintro e w' ⟨rfl, rfl⟩
    go_wp2_with fail
    refine (show Calls _ _ _ _ _ from H2.out).mono ?_
    rintro e w' ⟨rfl, rfl⟩
    go_wp2_with fail
    refine (show Calls _ _ _ _ _ from A.out).mono ?_
    rintro e w' ⟨rfl, hb⟩
    go_wp2_with fail
    go_ret
    exact ⟨rfl, hb⟩
set_option maxHeartbeats 400000 in
theorem sumMasks_walk (w : World) (ht : Tab w) (c : Int) (wc : (Lit.int .u32 c).wf = true) (d : Int) (wd : (Lit.int .u32 d).wf = true) :
    Calls Tryd.prog 5 #[.int .u32 c, .int .u32 d] w fun e w' => e = .returned (.bool true) ∧ Below w.heap.size w w' := by
  have A := Lib.hid (awake_c w ht)
  obtain ⟨c0, c1⟩ := bounds_u32 wc
  obtain ⟨d0, d1⟩ := bounds_u32 wd
  have M1 := Lib.hid (mask_c c w c0 c1)
  have M2 := Lib.hid (refmask_c c w c0 c1)
  have M3 := Lib.hid (unmask_c (mk c) w (mk_bound c).1 (mk_bound c).2)
  rw [um_mk c c0 c1] at M3
  have M4 := Lib.hid (unmask_c c w c0 c1)
  have M5 := Lib.hid (mask_c (um c) w (um_bound c).1 (um_bound c).2)
  rw [mk_um c c0 c1] at M5
  have M6 := Lib.hid (mask_c d w d0 d1)
  by_cases hcd : c = d
  · subst hcd
    clear ht wc wd M6 d0 d1
    generalize um c = x at M4 M5
    generalize mk c = m at M1 M2 M3
    go_enter Tryd.func5, Tryd.ntmps5
    go_wp2_with fail
    refine (show Calls _ _ _ _ _ from M1.out).mono ?_
    rintro e w' ⟨rfl, rfl⟩
    go_wp2_with fail
    refine (show Calls _ _ _ _ _ from M2.out).mono ?_
    rintro e w' ⟨rfl, rfl⟩
    go_wp2_with fail
    refine (show Calls _ _ _ _ _ from M3.out).mono ?_
    rintro e w' ⟨rfl, rfl⟩
    go_wp2_with fail
    refine (show Calls _ _ _ _ _ from M4.out).mono ?_
    rintro e w' ⟨rfl, rfl⟩
    go_wp2_with fail
    refine (show Calls _ _ _ _ _ from M5.out).mono ?_
    rintro e w' ⟨rfl, rfl⟩
    go_wp2_with fail
    refine (show Calls _ _ _ _ _ from M1.out).mono ?_
    rintro e w' ⟨rfl, rfl⟩
    go_wp2_with fail
    refine (show Calls _ _ _ _ _ from A.out).mono ?_
    rintro e w' ⟨rfl, hb⟩
    go_wp2_with fail
    go_ret
    exact ⟨rfl, hb⟩
  · have n1 : (c == d) = false := by simpa using hcd
    have n2 : (mk c == mk d) = false := by
      rw [beq_eq_false_iff_ne]
      exact fun h => hcd (mk_inj c d c0 c1 d0 d1 h)
    clear ht wc wd hcd
    generalize um c = x at M4 M5
    generalize mk c = m at M1 M2 M3 n2
    generalize mk d = n at M6 n2
    go_enter Tryd.func5, Tryd.ntmps5
    go_wp2_with fail
    refine (show Calls _ _ _ _ _ from M1.out).mono ?_
    rintro e w' ⟨rfl, rfl⟩
    go_wp2_with fail
    refine (show Calls _ _ _ _ _ from M2.out).mono ?_
    rintro e w' ⟨rfl, rfl⟩
    go_wp2_with fail
    refine (show Calls _ _ _ _ _ from M3.out).mono ?_
    rintro e w' ⟨rfl, rfl⟩
    go_wp2_with fail
    refine (show Calls _ _ _ _ _ from M4.out).mono ?_
    rintro e w' ⟨rfl, rfl⟩
    go_wp2_with fail
    refine (show Calls _ _ _ _ _ from M5.out).mono ?_
    rintro e w' ⟨rfl, rfl⟩
    go_wp2_with fail
    refine (show Calls _ _ _ _ _ from M6.out).mono ?_
    rintro e w' ⟨rfl, rfl⟩
    go_wp2_with fail
    refine (show Calls _ _ _ _ _ from A.out).mono ?_
    rintro e w' ⟨rfl, hb⟩
    go_wp2_with fail
    go_ret
    exact ⟨rfl, hb⟩
theorem sizeU8 (w : World) : (sizeOf 5).run Tryd.prog w = .ok 1 w := by kernel_rfl
theorem still_of {f : FuncId} {args : Array Value} {w : World} {v : Value} (h : Calls Tryd.prog f args w fun e w' => e = .returned v ∧ w = w') :
    Calls Tryd.prog f args w fun e w' => e = .returned v ∧ w' = w := h.mono fun _ _ ⟨he, hw⟩ => ⟨he, hw.symm⟩

set_option maxHeartbeats 400000 in
theorem sumMore_walk (w : World) (ht : Tab w) (a : Option Addr) (len cap : Nat) (l : List UInt8) (hl : l.length = len) (hc : len ≤ cap) (_hm : cap ≤ maxLen) (hr : Rd w a l) (x : Int) (wx : (Lit.int .i64 x).wf = true) :
    Calls Tryd.prog 4 #[.slice a len cap, .int .i64 x] w fun e w' => e = .returned (.bool true) ∧ Below w.heap.size w w' := by
  have A := Lib.hid (awake_c w ht)
  have hx := bounds_i64 wx
  clear wx
  by_cases h1 : 5000 < len
  · clear hl hr ht
    go_enter Tryd.func4, Tryd.ntmps4
    go_wp2_with fail
    refine (show Calls _ _ _ _ _ from A.out).mono ?_
    rintro e w' ⟨rfl, hb⟩
    go_wp2_with fail
    go_ret
    exact ⟨rfl, hb⟩
  by_cases h2 : x < 0
  · clear hl hr ht
    go_enter Tryd.func4, Tryd.ntmps4
    go_wp2_with fail
    refine (show Calls _ _ _ _ _ from A.out).mono ?_
    rintro e w' ⟨rfl, hb⟩
    go_wp2_with fail
    go_ret
    exact ⟨rfl, hb⟩
  by_cases h3 : (len : Int) < x
  · clear hl hr ht
    go_enter Tryd.func4, Tryd.ntmps4
    go_wp2_with fail
    refine (show Calls _ _ _ _ _ from A.out).mono ?_
    rintro e w' ⟨rfl, hb⟩
    go_wp2_with fail
    go_ret
    exact ⟨rfl, hb⟩
  obtain ⟨k, rfl⟩ := Int.eq_ofNat_of_zero_le (show 0 ≤ x by omega)
  have g1 : len ≤ 5000 := by omega
  have g2 : k ≤ len := by omega
  clear h1 h2 h3 hx A
  have A := Lib.hid (awake_c w.drew ht)
  have htd : Tab w.drew := ht
  have hrd : Rd w.drew a l := hr
  have C1 := Lib.hid (still_of (of_c a k cap (l.take k) w.drew (by simp; omega) (by omega) (hrd.take k) htd))
  have C2 := Lib.hid (still_of (more_c (Crc.of (l.take k)) (cutAt a k cap) (len - k) (cap - k) (l.drop k) w.drew (by simp; omega) (by omega) (hrd.drop k cap (by omega)) htd))
  have e2 : Crc.more (Crc.of (l.take k)) (l.drop k) = Crc.of l := by
    unfold Crc.of
    rw [← Crc.more_append, List.take_append_drop]
  rw [e2] at C2
  have C3 := Lib.hid (still_of (refof_c a len cap l w.drew hl (by omega) hrd))
  have C4 := Lib.hid (still_of (of_c a len cap l w.drew hl (by omega) hrd htd))
  have C5 := Lib.hid (still_of (more_c (Crc.of l) none 0 0 [] w.drew rfl (by omega) (Rd.nil _ _) htd))
  rw [Crc.more_nil] at C5
  generalize Crc.of l = t at C2 C3 C4 C5
  generalize Crc.of (l.take k) = s at C1 C2
  clear e2 hl hr ht htd hrd
  have S1 := cut_hi (P := Tryd.prog) Tryd.underlying22 sizeU8 a len cap k (by omega)
  have S2 := cut_lo (P := Tryd.prog) Tryd.underlying22 sizeU8 a len cap k (by omega)
  have hb : Below w.heap.size w w.drew := (Below.refl _ _).drew
  go_enter Tryd.func4, Tryd.ntmps4
  go_wp2_with fail
  go_still_tail 20, (by kernel_rfl)
  still_call C1.out
  repeat still_step
  still_call C2.out
  repeat still_step
  still_call C3.out
  repeat still_step
  still_call C4.out
  repeat still_step
  still_call C5.out
  repeat still_step
  still_call C4.out
  repeat still_step
  refine wpStill_nil ?_
  clear S1 S2
  go_wp2_with fail
  refine (show Calls _ _ _ _ _ from A.out).mono ?_
  rintro e w' ⟨rfl, hb'⟩
  go_wp2_with fail
  go_ret
  exact ⟨rfl, hb.trans hb'⟩
end Go.Proofs.YtefkbedpnojibaaDoor
