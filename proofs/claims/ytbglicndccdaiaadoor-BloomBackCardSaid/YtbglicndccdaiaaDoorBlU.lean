/-
  The walk of the statement BloomPlaces.
-/
import Derived.Test.YtbglicndccdaiaaDoorBlT
import Derived.Deep.QuietTactic
import Derived.BigQuiet
namespace Go.Proofs.YtbglicndccdaiaaDoor
set_option linter.unusedVariables false
set_option linter.unusedSimpArgs false
open Go.RowKit

theorem wf64 {x : Int} (h : (Lit.int .i64 x).wf = true) : -9223372036854775808 ≤ x ∧ x ≤ 9223372036854775807 := by
  simp [Lit.wf, IntKind.min, IntKind.max, IntKind.signed, IntKind.bits] at h
  omega
theorem placesI_lt (l : List UInt8) (m n : Nat) (hm : 0 < m) (i : Nat) (h : i < n) : ∃ q : Nat, (placesI l m n).getD i 0 = (q : Int) ∧ q < m := ⟨_, placesI_get l m n i h, Nat.mod_lt _ hm⟩
set_option maxRecDepth 20000 in
set_option maxHeartbeats 1600000 in
theorem bloomPlaces_in (W : World) (ht : Tab W) (a : Option Addr) (len cap : Nat) (l : List UInt8) (hl : l.length = len) (hlm : len ≤ 1000) (hr : Rd W a l) (m c : Nat) (hm : 1 ≤ m) (hm2 : m ≤ 16777216) (hc : 1 ≤ c) (hc2 : c ≤ 30) :
    Calls Tryd.prog 4 #[.slice a len cap, .int .i64 (m : Int), .int .i64 (c : Int)] W (Yes W) := by
  have C1 := Lib.hid (places_c a len cap l m c W hl (by omega) hm hm2 hc hc2 hr ht)
  have C2 := Lib.hid (fun w (f : Fr No W w) => refPlaces_c a len cap l m c w hl (by omega) (hr.keep f) (by omega) (by omega) (by omega))
  have CA := Lib.hid (fun w (f : Fr No W w) => awake_c w (ht.keep f))
  have d0 : decide (1000 < (len : Int)) = false := decide_eq_false (by omega)
  have d1 : decide ((m : Int) < 1) = false := decide_eq_false (by omega)
  have d2 : decide (16777216 < (m : Int)) = false := decide_eq_false (by omega)
  have d3 : decide ((c : Int) < 1) = false := decide_eq_false (by omega)
  have d4 : decide (30 < (c : Int)) = false := decide_eq_false (by omega)
  have HL := Lib.hid (placesI_length l m c)
  have HQ := Lib.hid (fun i h => placesI_lt l m c (by omega) i h)
  clear hr ht hl
  go_enter Tryd.func4, Tryd.ntmps4
  go_wp2_with fail
  refine (show Calls _ _ _ _ _ from C1.out).mono ?_
  rintro e w1 ⟨v1, rfl, hrow1, hf1⟩
  obtain ⟨s1, k1, rfl, _, _, hcells1⟩ := hrow1.form
  rw [HL.out] at hcells1 ⊢
  have HC1 := Lib.hid hcells1
  have HF1 := Lib.hid hf1
  clear hrow1 hcells1 hf1 C1
  go_wp2_with fail
  refine (C2.out _ HF1.out).mono ?_
  rintro e w2 ⟨v2, rfl, hrow2, hf2⟩
  obtain ⟨s2, k2, rfl, _, _, hcells2⟩ := hrow2.form
  rw [HL.out] at hcells2 ⊢
  have HC2 := Lib.hid hcells2
  have HF2 := Lib.hid hf2
  clear hrow2 hcells2 hf2 C2
  go_wp2_with fail
  go_loopw [49] (fun i wr => ∃ k : Nat, i = .int .i64 k ∧ k ≤ c ∧ Fr No w2 wr) (fun i _ => c - (intOf i).toNat)
  case atStart => exact ⟨0, rfl, Nat.zero_le _, Fr.refl _ _⟩
  case round =>
    obtain ⟨k, rfl, hk, hfr⟩ := hrel
    have HFr := Lib.hid hfr
    by_cases h1 : k < c
    · obtain ⟨b1, o1, _, rfl, hx1⟩ := HC1.out (by omega)
      obtain ⟨b2, o2, _, rfl, hx2⟩ := HC2.out (by omega)
      have q1 := hfr.cell (HF2.out.cell (hx1 k h1) (fun h => h)) (fun h => h)
      have q2 := hfr.cell (hx2 k h1) (fun h => h)
      obtain ⟨q, hq, hqm⟩ := HQ.out k h1
      rw [hq] at q1 q2
      have e1 : ((q : Int) != (q : Int)) = false := by simp
      have e2 : decide ((q : Int) < 0) = false := decide_eq_false (by omega)
      have e3 : decide ((m : Int) ≤ (q : Int)) = false := decide_eq_false (by omega)
      have g1 : (0 : Int) ≤ (k : Int) := by omega
      have g2 : (k : Int) < (c : Int) := by omega
      clear hx1 hx2 hq hfr
      go_wp2_with fail
      go_quiet (fail)
      go_wp2_with fail
      go_roundw
      case rel => exact ⟨k + 1, by simp, by omega, HFr.out.drewN _⟩
      case measure => simp [intOf]; omega
    · have hkc : k = c := by omega
      clear hfr
      have CA2 := Lib.hid (CA.out _ ((HF1.out.trans HF2.out).trans HFr.out))
      have HFF := Lib.hid ((HF1.out.trans HF2.out).trans HFr.out)
      go_wp2_with fail
      refine (show Calls _ _ _ _ _ from CA2.out).mono ?_
      rintro e w3 ⟨rfl, hf3⟩
      go_wp2_with fail
      go_ret
      exact ⟨rfl, HFF.out.trans hf3⟩
set_option maxRecDepth 20000 in
set_option maxHeartbeats 1600000 in
theorem bloomPlaces_no (W : World) (ht : Tab W) (a : Option Addr) (len cap : Nat) (hlm : len ≤ 1000) (m c : Int) (hm0 : -9223372036854775808 ≤ m) (hm1 : m ≤ 9223372036854775807) (hc0 : -9223372036854775808 ≤ c) (hc1 : c ≤ 9223372036854775807) (h : m < 1 ∨ 16777216 < m ∨ c < 1 ∨ 30 < c) :
    Calls Tryd.prog 4 #[.slice a len cap, .int .i64 m, .int .i64 c] W (Yes W) := by
  have C1 := Lib.hid (places_no a len cap m c W hm0 hm1 hc0 hc1 h)
  have CA := Lib.hid (awake_c W ht)
  have d0 : decide (1000 < (len : Int)) = false := decide_eq_false (by omega)
  clear ht
  have hway : (decide (m < 1) = true) ∨ (decide (m < 1) = false ∧ decide (16777216 < m) = true) ∨ (decide (m < 1) = false ∧ decide (16777216 < m) = false ∧ decide (c < 1) = true) ∨ (decide (m < 1) = false ∧ decide (16777216 < m) = false ∧ decide (c < 1) = false ∧ decide (30 < c) = true) := by
    simp only [decide_eq_true_eq, decide_eq_false_iff_not]
    omega
  clear h
  rcases hway with d1 | ⟨d1, d2⟩ | ⟨d1, d2, d3⟩ | ⟨d1, d2, d3, d4⟩
  all_goals
    go_enter Tryd.func4, Tryd.ntmps4
    go_wp2_with fail
    refine (show Calls _ _ _ _ _ from C1.out).mono ?_
    rintro e w1 ⟨rfl, rfl⟩
    go_wp2_with fail
    refine (show Calls _ _ _ _ _ from CA.out).mono ?_
    rintro e w3 ⟨rfl, hf3⟩
    go_wp2_with fail
    go_ret
    exact ⟨rfl, hf3⟩
set_option maxHeartbeats 800000 in
theorem bloomPlaces_walk (W : World) (ht : Tab W) (a : Option Addr) (len cap : Nat) (l : List UInt8) (hl : l.length = len) (hc : len ≤ cap) (hm : cap ≤ maxLen) (hr : Rd W a l) (x1 : Int) (wf1 : (Lit.int .i64 x1).wf = true) (x2 : Int) (wf2 : (Lit.int .i64 x2).wf = true) :
    Calls Tryd.prog 4 #[.slice a len cap, .int .i64 x1, .int .i64 x2] W fun e W' => e = .returned (.bool true) ∧ Below W.heap.size W W' := by
  obtain ⟨a1, a2⟩ := wf64 wf1
  obtain ⟨b1, b2⟩ := wf64 wf2
  unfold maxLen at hm
  refine Calls.mono (R := Yes W) ?_ fun e w' h => h.post
  by_cases h0 : 1000 < len
  · have CA := Lib.hid (awake_c W ht)
    have d0 : decide (1000 < (len : Int)) = true := decide_eq_true (by omega)
    clear ht hr hl
    go_enter Tryd.func4, Tryd.ntmps4
    go_wp2_with fail
    refine (show Calls _ _ _ _ _ from CA.out).mono ?_
    rintro e w3 ⟨rfl, hf3⟩
    go_wp2_with fail
    go_ret
    exact ⟨rfl, hf3⟩
  · by_cases hin : 1 ≤ x1 ∧ x1 ≤ 16777216 ∧ 1 ≤ x2 ∧ x2 ≤ 30
    · obtain ⟨m, rfl⟩ := Int.eq_ofNat_of_zero_le (show 0 ≤ x1 by omega)
      obtain ⟨c, rfl⟩ := Int.eq_ofNat_of_zero_le (show 0 ≤ x2 by omega)
      exact bloomPlaces_in W ht a len cap l hl (by omega) hr m c (by omega) (by omega) (by omega) (by omega)
    · exact bloomPlaces_no W ht a len cap (by omega) x1 x2 a1 a2 b1 b2 (by omega)
end Go.Proofs.YtbglicndccdaiaaDoor
