/-
  The walk of the statement BloomParses.
-/
import Derived.Test.YtbglicndccdaiaaDoorBlU
namespace Go.Proofs.YtbglicndccdaiaaDoor
set_option linter.unusedVariables false
set_option linter.unusedSimpArgs false
open Go.RowKit

theorem hasB_succ (bs : List UInt8) (l : List UInt8) (m k : Nat) : hasB bs (places l m (k + 1)) = (hasB bs (places l m k) && bitB bs ((pA l + k * pD l) % m)) := by
  rw [places_succ]
  simp [hasB]
theorem shr_bit (v k : Nat) : v / 2 ^ k % 2 = (v.testBit k).toNat := by
  rw [Nat.testBit_eq_decide_div_mod_eq]
  rcases Nat.mod_two_eq_zero_or_one (v / 2 ^ k) with h | h <;> simp [h]
theorem and_one (v k : Nat) (hv : v < 256) (d : Nat) (hd : d = 2 ^ k) : (bits .and .u8 ((v : Int) / (d : Int)) 1 == 1) = v.testBit k := by
  subst hd
  have h1 : (v : Int) / ((2 ^ k : Nat) : Int) = ((v / 2 ^ k : Nat) : Int) := (Int.natCast_ediv v (2 ^ k)).symm
  have h2 : v / 2 ^ k < 256 := Nat.lt_of_le_of_lt (Nat.div_le_self _ _) hv
  have h3 := u8_and ((v / 2 ^ k : Nat) : Int) 1 (Int.natCast_nonneg _) (show ((v / 2 ^ k : Nat) : Int) < ((256 : Nat) : Int) from Int.ofNat_lt.2 h2) (by omega) (by omega)
  rw [h1, h3, Int.toNat_natCast, show (1 : Int).toNat = 1 from rfl, Nat.and_one_is_mod, shr_bit]
  cases v.testBit k <;> rfl
set_option maxRecDepth 20000 in
set_option maxHeartbeats 1600000 in
theorem bloomParses_in (W : World) (ht : Tab W) (a : Option Addr) (len cap : Nat) (x : UInt8) (bs : List UInt8) (hl : (x :: bs).length = len) (hc : len ≤ cap) (hcm : cap ≤ maxLen) (h9 : 9 ≤ len) (h5 : len ≤ 5000) (hx1 : 1 ≤ x.toNat) (hx2 : x.toNat ≤ 30) (hr : Rd W a (x :: bs))
    (a' : Option Addr) (len' cap' : Nat) (l : List UInt8) (hl' : l.length = len') (h5' : len' ≤ 500) (hr' : Rd W a' l) :
    Calls Tryd.prog 6 #[.slice a len cap, .slice a' len' cap'] W (Yes W) := by
  have C1 := Lib.hid (parse_c a len cap x bs W hl hc hcm h9 (by omega) hx1 hx2 hr)
  have HR := Lib.hid hr
  have HR' := Lib.hid hr'
  have HL := Lib.hid hl
  have HT := Lib.hid ht
  have hbl : bs.length = len - 1 := by simp at hl; omega
  obtain ⟨bb, o, rfl, hcells⟩ := hr (by simp)
  have c0 : W.cell? ⟨bb, o, none⟩ = some (.int .u8 (x.toNat : Int)) := by
    have := hcells 0 (by simp)
    simpa using this
  have HCELLS : Hid (∀ i, i < bs.length → W.cell? ⟨bb, o + (1 + i), none⟩ = some (.int .u8 ((bs.getD i 0).toNat : Int))) := Lib.hid (fun i hi => by
    have h := hcells (1 + i) (by simp; omega)
    rw [h]
    simp [List.getD, Nat.add_comm 1 i])
  have CB := fun w b g (hf : Fil w b g bs x.toNat) => bits_c b g bs x.toNat w hf (by omega)
  have CP := fun w b g (hf : Fil w b g bs x.toNat) => probes_c b g bs x.toNat w hf
  have CY := fun w b g (hf : Fil w b g bs x.toNat) => fbytes_c b g bs x.toNat w hf (by omega) (by omega)
  have CS := fun w v cc (h1 : Rd w v (x :: bs)) (h2 : Rd w (some ⟨bb, o, none⟩) (x :: bs)) => same_yes (w := w) (a := v) (a' := some ⟨bb, o, none⟩) (len := len) (cap := cc) (len' := len) (cap' := cap) hl hl h1 h2 rfl
  have CQ := fun w (h1 : Rd w a' l) => refPlaces_c a' len' cap' l (8 * (len - 1)) x.toNat w hl' (by omega) h1 (by omega) (by omega) (by omega)
  have CH := fun w b g (hf : Fil w b g bs x.toNat) (h1 : Rd w a' l) (h2 : Tab w) => has_c b g bs x.toNat a' len' cap' l w hf hl' (by omega) h1 h2 (by omega) (by omega) (by omega)
  rw [show UInt8.ofNat x.toNat = x by simp] at CY
  rw [hbl] at CB CH
  have HPI := Lib.hid (placesI_length l (8 * (len - 1)) x.toNat)
  have HPG := Lib.hid (placesI_get l (8 * (len - 1)) x.toNat)
  have HSUC := Lib.hid (hasB_succ bs l (8 * (len - 1)))
  have HMOD := Lib.hid (fun i => Nat.mod_lt (pA l + i * pD l) (show 0 < 8 * (len - 1) by omega))
  have HBL := Lib.hid hbl
  have d1 : decide (5000 < (len : Int)) = false := decide_eq_false (by omega)
  have d2 : decide (500 < (len' : Int)) = false := decide_eq_false (by omega)
  have d3 : decide ((len : Int) < 9) = false := decide_eq_false (by omega)
  generalize x.toNat = X at *
  have d4 : decide ((X : Int) < 1) = false := decide_eq_false (by omega)
  have d5 : decide (30 < (X : Int)) = false := decide_eq_false (by omega)
  have CB := Lib.hid CB
  have CP := Lib.hid CP
  have CY := Lib.hid CY
  have CS := Lib.hid CS
  have CQ := Lib.hid CQ
  have CH := Lib.hid CH
  have l1 : (0 : Int) < (len : Int) := by omega
  have l2 : 0 < len := by omega
  clear hr hr' ht hl hl' hcells hbl
  go_enter Tryd.func6, Tryd.ntmps6
  go_wp2_with fail
  refine (show Calls _ _ _ _ _ from C1.out).mono ?_
  rintro e w1 ⟨b, g, rfl, hfil, hf1, hb, hg⟩
  have c1 := hf1.cell c0 (fun h => h)
  have HF1 := Lib.hid hf1
  have HFIL := Lib.hid hfil
  clear hfil hf1 c0 C1
  have n1 : ((X : Int) != (X : Int)) = false := by simp
  have hwx : IntKind.i64.wrap (X : Int) = (X : Int) := by
    rw [PlainAid.i64_is]
    unfold wrap64
    omega
  have hw1 : IntKind.i64.wrap (8 * (len : Int)) = 8 * (len : Int) := by
    rw [PlainAid.i64_is]
    unfold wrap64
    omega
  have hw2 : IntKind.i64.wrap (8 * (len : Int) - 8) = ((8 * (len - 1) : Nat) : Int) := by
    rw [PlainAid.i64_is]
    unfold wrap64
    omega
  have n2 : (((8 * (len - 1) : Nat) : Int) != ((8 * (len - 1) : Nat) : Int)) = false := by simp
  obtain ⟨M, hM⟩ : ∃ M, 8 * (len - 1) = M := ⟨_, rfl⟩
  rw [hM] at hw2 n2 CB CQ CH HPI HPG HSUC HMOD
  have HM := Lib.hid hM
  clear hM
  go_wp2_with fail
  go_region_held3 (fun w' => w'.cell? ⟨bb, o, none⟩ = some (.int .u8 (X : Int))) (first | assumption | go_keep)
    (first
      | (go_at_call 18; refine (show Calls _ _ _ _ _ from CP.out _ b g (HFIL.out.keep ((Fr.refl No w1).drew) (fun h => h) (fun h => h))).mono ?_; rintro e w2 ⟨rfl, rfl⟩)
      | (go_at_call 17; refine (show Calls _ _ _ _ _ from CB.out _ b g (HFIL.out.keep ((Fr.refl No w1).drew) (fun h => h) (fun h => h))).mono ?_; rintro e w2 ⟨rfl, rfl⟩)
      | (go_at_call 22; refine (show Calls _ _ _ _ _ from CY.out _ b g (HFIL.out.keep ((Fr.refl No w1).drew) (fun h => h) (fun h => h))).mono ?_; rintro e w2 ⟨v, rfl, hrow, hfr⟩
         obtain ⟨sa, sc, rfl, _, _, hin⟩ := hrow.form
         have c1 := hfr.cell (((Fr.refl No w1).drew).cell c1 (fun h => h)) (fun h => h)
         rw [HL.out]
         have HY := Lib.hid hin.rd
         have HF2 := Lib.hid ((HF1.out.drew).trans hfr)
         have HFIL2 := Lib.hid ((HFIL.out.keep ((Fr.refl No w1).drew) (fun h => h) (fun h => h)).keep hfr (fun h => h) (fun h => h))
         clear hrow hin hfr)
      | (go_at_call 16; refine (show Calls _ _ _ _ _ from CS.out _ _ _ HY.out (HR.out.keep HF2.out)).mono ?_; rintro e w2 ⟨rfl, rfl⟩))
  go_wp2_with fail
  refine (show Calls _ _ _ _ _ from CB.out _ b g HFIL2.out).mono ?_
  rintro e w3 ⟨rfl, rfl⟩
  go_wp2_with fail
  refine (show Calls _ _ _ _ _ from CP.out _ b g HFIL2.out).mono ?_
  rintro e w3 ⟨rfl, rfl⟩
  go_wp2_with fail
  refine (show Calls _ _ _ _ _ from CQ.out _ (HR'.out.keep HF2.out)).mono ?_
  rintro e w3 ⟨v, rfl, hrow, hf3⟩
  obtain ⟨s3, k3, rfl, _, _, hcells3⟩ := hrow.form
  rw [HPI.out] at hcells3 ⊢
  have HC3 := Lib.hid hcells3
  have HF3 := Lib.hid (HF2.out.trans hf3)
  have HFIL3 := Lib.hid (HFIL2.out.keep hf3 (fun h => h) (fun h => h))
  clear hrow hcells3 hf3 n1 n2 hw1 hw2 hwx c1 HY HF2 HFIL2 HF1 HFIL CS CY CQ
  go_wp2_with fail
  go_loopw [7, 86] (fun hv i wr => ∃ k : Nat, i = .int .i64 k ∧ k ≤ X ∧ hv = .bool (hasB bs (places l M k)) ∧ w3 = wr) (fun _ i _ => X - (intOf i).toNat)
  case atStart => exact ⟨0, rfl, Nat.zero_le _, rfl, rfl⟩
  case round =>
    obtain ⟨k, rfl, hk, rfl, rfl⟩ := hrel
    by_cases h1 : k < X
    · obtain ⟨b3, o3, _, rfl, hx3⟩ := HC3.out (by omega)
      have q3 := hx3 k h1
      rw [HPG.out k h1] at q3
      have hs := HSUC.out k
      have hqm := HMOD.out k
      generalize (pA l + k * pD l) % M = q at *
      have HS := Lib.hid hs
      generalize hasB bs (places l M k) = hb at *
      clear hs hx3
      cases hb with
      | false =>
        have HS2 := Lib.hid ((HS.out).trans (Bool.false_and _))
        clear HS
        go_wp2_with fail
        go_roundw
        case rel => exact ⟨k + 1, by simp, by omega, by rw [HS2.out], by simp⟩
        case measure => simp [intOf]; omega
      | true =>
        have HS2 := Lib.hid ((HS.out).trans (Bool.true_and _))
        have hq8 : q / 8 < bs.length := by
          have := HM.out
          rw [HBL.out]
          omega
        have hv := HCELLS.out (q / 8) hq8
        have hv2 := HF3.out.cell hv (fun h => h)
        have hbit : bitB bs q = (bs.getD (q / 8) 0).toNat.testBit (q % 8) := rfl
        have hv8 := u8_lt (bs.getD (q / 8) 0)
        have hsb := shr_bit (bs.getD (q / 8) 0).toNat (q % 8)
        rw [hbit] at HS2
        have hql : q / 8 + 1 < len := by
          have := HBL.out
          omega
        have e8 : (q : Int) / 8 = ((q / 8 : Nat) : Int) := by omega
        have r8 : (q : Int) % 8 = ((q % 8 : Nat) : Int) := by omega
        have hk8 : q % 8 = 0 ∨ q % 8 = 1 ∨ q % 8 = 2 ∨ q % 8 = 3 ∨ q % 8 = 4 ∨ q % 8 = 5 ∨ q % 8 = 6 ∨ q % 8 = 7 := by omega
        generalize (bs.getD (q / 8) 0).toNat = v at *
        generalize q / 8 = q8 at *
        generalize q % 8 = k8 at *
        clear hbit hv HS
        rcases hk8 with rfl | rfl | rfl | rfl | rfl | rfl | rfl | rfl
        · have hand := and_one v 0 hv8 1 rfl
          rw [show ((1 : Nat) : Int) = 1 from rfl, Int.ediv_one] at hand
          have HAND := Lib.hid hand
          clear hand
          go_wp2_with fail
          go_roundw
          case rel => exact ⟨k + 1, by simp, by omega, by rw [HS2.out, HAND.out], by simp⟩
          case measure => simp [intOf]; omega
        · have hand := and_one v 1 hv8 2 rfl
          have hand : (bits .and .u8 ((v : Int) / 2) 1 == 1) = _ := hand
          have HAND := Lib.hid hand
          clear hand
          go_wp2_with fail
          go_roundw
          case rel => exact ⟨k + 1, by simp, by omega, by rw [HS2.out, HAND.out], by simp⟩
          case measure => simp [intOf]; omega
        · have hand := and_one v 2 hv8 4 rfl
          have hand : (bits .and .u8 ((v : Int) / 4) 1 == 1) = _ := hand
          have HAND := Lib.hid hand
          clear hand
          go_wp2_with fail
          go_roundw
          case rel => exact ⟨k + 1, by simp, by omega, by rw [HS2.out, HAND.out], by simp⟩
          case measure => simp [intOf]; omega
        · have hand := and_one v 3 hv8 8 rfl
          have hand : (bits .and .u8 ((v : Int) / 8) 1 == 1) = _ := hand
          have HAND := Lib.hid hand
          clear hand
          go_wp2_with fail
          go_roundw
          case rel => exact ⟨k + 1, by simp, by omega, by rw [HS2.out, HAND.out], by simp⟩
          case measure => simp [intOf]; omega
        · have hand := and_one v 4 hv8 16 rfl
          have hand : (bits .and .u8 ((v : Int) / 16) 1 == 1) = _ := hand
          have HAND := Lib.hid hand
          clear hand
          go_wp2_with fail
          go_roundw
          case rel => exact ⟨k + 1, by simp, by omega, by rw [HS2.out, HAND.out], by simp⟩
          case measure => simp [intOf]; omega
        · have hand := and_one v 5 hv8 32 rfl
          have hand : (bits .and .u8 ((v : Int) / 32) 1 == 1) = _ := hand
          have HAND := Lib.hid hand
          clear hand
          go_wp2_with fail
          go_roundw
          case rel => exact ⟨k + 1, by simp, by omega, by rw [HS2.out, HAND.out], by simp⟩
          case measure => simp [intOf]; omega
        · have hand := and_one v 6 hv8 64 rfl
          have hand : (bits .and .u8 ((v : Int) / 64) 1 == 1) = _ := hand
          have HAND := Lib.hid hand
          clear hand
          go_wp2_with fail
          go_roundw
          case rel => exact ⟨k + 1, by simp, by omega, by rw [HS2.out, HAND.out], by simp⟩
          case measure => simp [intOf]; omega
        · have hand := and_one v 7 hv8 128 rfl
          have hand : (bits .and .u8 ((v : Int) / 128) 1 == 1) = _ := hand
          have HAND := Lib.hid hand
          clear hand
          go_wp2_with fail
          go_roundw
          case rel => exact ⟨k + 1, by simp, by omega, by rw [HS2.out, HAND.out], by simp⟩
          case measure => simp [intOf]; omega
    · have hkX : k = X := by omega
      subst hkX
      have CH2 := CH.out w3 b g HFIL3.out (HR'.out.keep HF3.out) (HT.out.keep HF3.out)
      generalize hasB bs (places l M k) = hb at *
      have CH2 := Lib.hid CH2
      have e1 : (hb == hb) = true := by simp
      go_wp2_with fail
      refine (show Calls _ _ _ _ _ from CH2.out).mono ?_
      rintro e w4 ⟨rfl, hf4⟩
      have HF4 := Lib.hid (HF3.out.trans hf4)
      have CA := Lib.hid (awake_c w4 (HT.out.keep HF4.out))
      clear hf4
      go_wp2_with fail
      refine (show Calls _ _ _ _ _ from CA.out).mono ?_
      rintro e w5 ⟨rfl, hf5⟩
      go_wp2_with fail
      go_ret
      exact ⟨rfl, HF4.out.trans hf5⟩
set_option maxRecDepth 20000 in
set_option maxHeartbeats 1600000 in
theorem bloomParses_no (W : World) (ht : Tab W) (a : Option Addr) (len cap : Nat) (bs : List UInt8) (hl : bs.length = len) (hc : len ≤ cap) (hcm : cap ≤ maxLen) (h5 : len ≤ 5000) (hw : wrong bs) (hr : Rd W a bs)
    (a' : Option Addr) (len' cap' : Nat) (h5' : len' ≤ 500) :
    Calls Tryd.prog 6 #[.slice a len cap, .slice a' len' cap'] W (Yes W) := by
  have C1 := Lib.hid (parse_no a len cap bs W hl hc hcm hw hr)
  have CA := Lib.hid (awake_c W ht)
  have d1 : decide (5000 < (len : Int)) = false := decide_eq_false (by omega)
  have d2 : decide (500 < (len' : Int)) = false := decide_eq_false (by omega)
  unfold wrong at hw
  rw [hl] at hw
  unfold maxLen at hcm
  by_cases h1 : len < 9
  · have d3 : decide ((len : Int) < 9) = true := decide_eq_true (by omega)
    clear hr hl hw ht
    go_enter Tryd.func6, Tryd.ntmps6
    go_wp2_with fail
    refine (show Calls _ _ _ _ _ from C1.out).mono ?_
    rintro e w1 ⟨rfl, rfl⟩
    go_wp2_with fail
    refine (show Calls _ _ _ _ _ from CA.out).mono ?_
    rintro e w5 ⟨rfl, hf5⟩
    go_wp2_with fail
    go_ret
    exact ⟨rfl, hf5⟩
  · have d3 : decide ((len : Int) < 9) = false := decide_eq_false (by omega)
    have hlt := u8_lt (bs.getD 0 0)
    obtain ⟨bb, o, rfl, hcells⟩ := hr (by omega)
    have c0 := hcells 0 (by omega)
    rw [Nat.add_zero] at c0
    generalize (bs.getD 0 0).toNat = X at *
    have l1 : (0 : Int) < (len : Int) := by omega
    have l2 : 0 < len := by omega
    clear hl ht hcells hr
    have hway : decide ((X : Int) < 1) = true ∨ (decide ((X : Int) < 1) = false ∧ decide (30 < (X : Int)) = true) := by
      simp only [decide_eq_true_eq, decide_eq_false_iff_not]
      omega
    clear hw
    rcases hway with d4 | ⟨d4, d5⟩
    all_goals
      go_enter Tryd.func6, Tryd.ntmps6
      go_wp2_with fail
      refine (show Calls _ _ _ _ _ from C1.out).mono ?_
      rintro e w1 ⟨rfl, rfl⟩
      go_wp2_with fail
      refine (show Calls _ _ _ _ _ from CA.out).mono ?_
      rintro e w5 ⟨rfl, hf5⟩
      go_wp2_with fail
      go_ret
      exact ⟨rfl, hf5⟩
set_option maxHeartbeats 800000 in
theorem bloomParses_walk (W : World) (ht : Tab W) (a : Option Addr) (len cap : Nat) (l : List UInt8) (hl : l.length = len) (hc : len ≤ cap) (hm : cap ≤ maxLen) (hr : Rd W a l)
    (a' : Option Addr) (len' cap' : Nat) (l' : List UInt8) (hl' : l'.length = len') (hc' : len' ≤ cap') (hm' : cap' ≤ maxLen) (hr' : Rd W a' l') :
    Calls Tryd.prog 6 #[.slice a len cap, .slice a' len' cap'] W fun e W' => e = .returned (.bool true) ∧ Below W.heap.size W W' := by
  refine Calls.mono (R := Yes W) ?_ fun e w' h => h.post
  have hm2 := hm
  have hm2' := hm'
  unfold maxLen at hm2 hm2'
  by_cases h0 : 5000 < len
  · have CA := Lib.hid (awake_c W ht)
    have d0 : decide (5000 < (len : Int)) = true := decide_eq_true (by omega)
    clear ht hr hl hr' hl' hm hm'
    go_enter Tryd.func6, Tryd.ntmps6
    go_wp2_with fail
    refine (show Calls _ _ _ _ _ from CA.out).mono ?_
    rintro e w3 ⟨rfl, hf3⟩
    go_wp2_with fail
    go_ret
    exact ⟨rfl, hf3⟩
  · by_cases h1 : 500 < len'
    · have CA := Lib.hid (awake_c W ht)
      have d0 : decide (5000 < (len : Int)) = false := decide_eq_false (by omega)
      have d1 : decide (500 < (len' : Int)) = true := decide_eq_true (by omega)
      clear ht hr hl hr' hl' hm hm'
      go_enter Tryd.func6, Tryd.ntmps6
      go_wp2_with fail
      refine (show Calls _ _ _ _ _ from CA.out).mono ?_
      rintro e w3 ⟨rfl, hf3⟩
      go_wp2_with fail
      go_ret
      exact ⟨rfl, hf3⟩
    · by_cases hin : 9 ≤ len ∧ 1 ≤ (l.getD 0 0).toNat ∧ (l.getD 0 0).toNat ≤ 30
      · cases l with
        | nil => simp at hl; omega
        | cons x bs => exact bloomParses_in W ht a len cap x bs hl hc hm hin.1 (by omega) hin.2.1 hin.2.2 hr a' len' cap' l' hl' (by omega) hr'
      · exact bloomParses_no W ht a len cap l hl hc hm (by omega) (by unfold wrong; rw [hl]; omega) hr a' len' cap' (by omega)
end Go.Proofs.YtbglicndccdaiaaDoor
