/-
  Layer 7: the walk of ZonePower, over the contracts of a device.
-/
import Derived.Test.YtkoebafalbcnbaaZoD
import Derived.Test.YtkoebafalbcnbaaZoP
namespace Go.Proofs.Ytkoebafalbcnbaa
set_option linter.unusedVariables false
open Go.RowKit

section
variable {D : World → Nat → (Nat → Prop) → Dev → Prop}
theorem end_flu (m : Dev) (ks : List Int) : cmdR (crashM m ks) (fluErr (crashM m ks)) = 0 := rfl
theorem end_down (m : Dev) (ks : List Int) : (crashM m ks).down = false := rfl
set_option maxRecDepth 20000 in
set_option maxHeartbeats 16000000 in
theorem zonePower_walk (M : ZoneOK D) (W : World) (n : Int) (wn : wf64 n) (a : Option Addr) (cap : Nat) (l : List Op7) (hc : l.length ≤ cap) (hm : cap ≤ maxLen) (rd : Op7s W a l) :
    Calls Try.prog 6 #[.int .i64 n, .slice a l.length cap] W fun e w' => e = .returned (.bool true) ∧ Below W.heap.size W w' := by
  have HM := Lib.hid M
  have HWN := Lib.hid wn
  have HRD := Lib.hid rd
  have HNEW := Lib.hid (newZ M 4 64 4 W (by decide) (by decide) (by decide) W (Fr.refl _ _))
  have HSM : Hid (∀ w, Fr No W w → Calls Try.prog 8 #[.slice a l.length cap, .int .i64 60] w fun e w' => e = .returned (.bool (small7 l 60)) ∧ Fr No w w') := Lib.hid fun w f => small_c a cap l 60 w hc hm (rd.keep f)
  have fin : ∀ w' : World, Fr No W w' → Below W.heap.size W w' := fun w' f => f.below (Nat.le_refl _) (fun _ h => h.elim)
  have FIN := Lib.hid fin
  unfold maxLen at hm
  obtain ⟨N, hN⟩ : ∃ N, l.length = N := ⟨_, rfl⟩
  rw [hN] at hc HSM
  rw [hN]
  have HN := Lib.hid hN
  clear fin rd wn hN
  have HSY := Lib.hid (fun h => small7_yes (l := l) (most := 60) h)
  go_enter Try.func6, Try.ntmps6
  go_wp2_with fail
  refine HNEW.out.mono ?_
  rintro e w1 ⟨_, ⟨h1, _⟩ | ⟨_, d, F1, rfl, h1, _⟩⟩
  · exact absurd h1 (by decide)
  have he : ∀ w : World, (binOp .eql 25 (.pointer (some ⟨d, 0, none⟩)) (.pointer none)).run Try.prog w = .ok (.bool false) w := fun _ => rfl
  have he2 : ∀ w : World, (binOp .neq 25 (.pointer (some ⟨d, 0, none⟩)) (.pointer none)).run Try.prog w = .ok (.bool true) w := fun _ => rfl
  have H1 : Hid (OwnZ D W w1 d F1 (newM 4 64 4)) := Lib.hid h1
  have HS1 := Lib.hid (HSM.out w1 h1.fr)
  clear h1 HNEW HSM
  go_wp2_with fail
  refine HS1.out.mono ?_
  rintro e w2 ⟨rfl, f2⟩
  have H2 := Lib.hid (H1.out.keep HM.out f2)
  clear f2 HS1 H1
  cases hsm : small7 l 60 with
  | false =>
    clear hsm
    go_wp2_with fail
    refine (awake_c HM.out _).mono ?_
    rintro e w3 ⟨rfl, f3⟩
    have HF3 := Lib.hid (H2.out.fr.trans f3)
    clear f3
    go_wp2_with fail
    go_ret
    exact ⟨rfl, FIN.out _ HF3.out⟩
  | true =>
    have HSI := Lib.hid (HSY.out hsm)
    have hN60 : N ≤ 60 := by
      have := HSI.out.1
      rw [HN.out] at this
      omega
    have HAR := Lib.hid (H2.out.arm HM.out (n := n) HWN.out)
    have HPI : Hid (PowI n (armM (newM 4 64 4) n)) := Lib.hid (pow_arm rfl rfl n)
    clear hsm HSY
    go_wp2_with fail
    refine HAR.out.mono ?_
    rintro e w3 ⟨rfl, F3, h3, _, _⟩
    have H3 := Lib.hid h3
    clear h3 HAR H2
    go_wp2_with fail
    go_loopw [30] (fun i wr => ∃ (j : Nat) (F : Nat → Prop) (m : Dev), i = .int .i64 j ∧ j ≤ N ∧ OwnZ D W wr d F m ∧ PowI n m ∧ m.done ≤ j) (fun i _ => N - (intOf i).toNat)
    case atStart => exact ⟨0, F3, _, rfl, Nat.zero_le _, H3.out, HPI.out, Nat.le_refl _⟩
    case round =>
      clear H3 HPI
      obtain ⟨j, F, m, rfl, hj, hown, hpi, hdone⟩ := hrel
      have HO := Lib.hid hown
      have HPI := Lib.hid hpi
      clear hown hpi
      by_cases h1 : j < N
      · have d1 : decide ((j : Int) < (N : Int)) = true := by rw [decide_eq_true_eq]; omega
        obtain ⟨b, o, rfl, hx⟩ := HRD.out (by rw [HN.out]; omega)
        obtain ⟨x, hx0⟩ : ∃ x, l[j]? = some x := ⟨_, List.getElem?_eq_getElem (by rw [HN.out]; exact h1)⟩
        have hxj := (hx j x hx0).keep HO.out.fr
        have hsz := HSI.out.2 j x hx0
        have HXJ := Lib.hid (hx j x hx0)
        have q0 := hxj.c0
        have q1 := hxj.c1
        have q2 := hxj.c2
        have q3 := hxj.c3
        have q4 := hxj.c4
        have q5 := hxj.c5
        clear hx hx0 hxj
        obtain ⟨xk, xz, xt, xn, xda, xdc, xd, xka, xkc, xks⟩ := x
        simp only at q0 q1 q2 q3 q4 q5 hsz
        have HSZ := Lib.hid hsz
        obtain ⟨dn, hdn⟩ : ∃ m, xd.length = m := ⟨_, rfl⟩
        obtain ⟨kn, hkn⟩ : ∃ m, xks.length = m := ⟨_, rfl⟩
        rw [hdn] at q4
        rw [hkn] at q5
        have HDN := Lib.hid hdn
        have HDL : Hid (dn ≤ xdc ∧ xdc ≤ maxLen ∧ Rd W xda xd) := Lib.hid ⟨by rw [← hdn]; exact HXJ.out.dl, HXJ.out.dm, HXJ.out.dr⟩
        have HWF : Hid (wf64 xz ∧ wf64 xt ∧ wf64 xn) := Lib.hid ⟨HXJ.out.wz, HXJ.out.wt, HXJ.out.wn⟩
        clear hdn hkn hsz HXJ
        have A1 := At.new wr 33 #[.int .i64 xk, .int .i64 xz, .int .i64 xt, .int .i64 xn, .slice xda dn xdc, .slice xka kn xkc]
        have f1 := (Fr.refl No wr).alloc (.cells #[.int .i64 xk, .int .i64 xz, .int .i64 xt, .int .i64 xn, .slice xda dn xdc, .slice xka kn xkc] 33)
        have hO1 := HO.out.keep HM.out f1
        have HDW := Lib.hid (hO1.down HM.out)
        obtain ⟨wv, hwv⟩ : ∃ x, wr.alloc (.cells #[.int .i64 xk, .int .i64 xz, .int .i64 xt, .int .i64 xn, .slice xda dn xdc, .slice xka kn xkc] 33) = x := ⟨_, rfl⟩
        rw [hwv] at A1 HDW
        have HA1 := Lib.hid A1
        clear A1 f1 hO1 HO
        obtain ⟨wd, hwd⟩ : ∃ x, m.down = x := ⟨_, rfl⟩
        rw [hwd] at HDW
        have HWD := Lib.hid hwd
        clear hwd
        go_wp2_with fail
        try rw [hwv]
        refine HDW.out.mono ?_
        rintro e w5 ⟨rfl, hO5, f5⟩
        have hA5 := HA1.out.keep f5 (fun h => h)
        have v0 := hA5.cell 0
        have v1 := hA5.cell 1
        have v2 := hA5.cell 2
        have v3 := hA5.cell 3
        have v4 := hA5.cell 4
        simp at v0 v1 v2 v3 v4
        have HO5 := Lib.hid hO5
        clear hO5 f5 hA5 HDW HA1 hwv q0 q1 q2 q3 q4 q5
        have hd6 : m.done < 1000000 := by omega
        by_cases k1 : xk = 1
        · subst k1
          have HC6 := Lib.hid (HO5.out.append HM.out hd6 HWF.out.1 (by have := HSZ.out.1; omega) (by rw [HDN.out]; exact HDL.out.1) HDL.out.2.1 HDL.out.2.2)
          have HST0 := Lib.hid (step_app m xz xd)
          obtain ⟨m6, hm6⟩ : ∃ x, appM m xz xd = x := ⟨_, rfl⟩
          obtain ⟨E, hE0⟩ : ∃ x, cmdR m (appErr m xz xd) = x := ⟨_, rfl⟩
          rw [hm6, hE0] at HST0
          have HST := HST0
          rw [hm6, hE0, HDN.out] at HC6
          clear hm6 hE0 HST0
          go_wp2_with fail
          refine HC6.out.mono ?_
          rintro e w6 ⟨rfl, F6, hO6, _, _⟩
          have HO6 := Lib.hid hO6
          clear hO6 HC6 HO5
          have HPI6 := Lib.hid (HST.out.c n HPI.out)
          have hd66 : m6.done ≤ j + 1 := Nat.le_trans HST.out.d (by omega)
          have HDO := Lib.hid (HO6.out.done HM.out)
          have HDO2 : Hid (∀ w F, OwnZ D W w d F m6 → Calls Try.prog 23 #[.pointer (some ⟨d, 0, none⟩)] w (ToldZ D W w d F m6 (.bool m6.down))) := Lib.hid fun w F h => h.down HM.out
          obtain ⟨wd6, hwd6⟩ : ∃ x, m6.down = x := ⟨_, rfl⟩
          rw [hwd6] at HDO2
          have hE6 : wd6 = (E == 74) := by rw [← hwd6]; exact HST.out.b
          have HWD6 := Lib.hid hwd6
          clear hwd6
          have hE := HST.out.a
          rw [HWD.out] at hE
          by_cases hn : n < 0
          · have d5 : decide (0 ≤ n) = false := by rw [decide_eq_false_iff_not]; omega
            have d6 : decide (n < 0) = true := decide_eq_true hn
            obtain rfl : wd = false := by rw [← HWD.out]; exact (HPI.out.neg hn).2
            obtain rfl : wd6 = false := by rw [← HWD6.out]; exact (HPI6.out.neg hn).2
            have d7 : (E == 74) = false := hE6.symm
            clear hn hE hE6
            go_wp2_with fail
            refine (HDO2.out _ _ HO6.out).mono ?_
            rintro e w7 ⟨rfl, hO7, _⟩
            have HO7 := Lib.hid hO7
            clear hO7 HO6 HDO
            go_wp2_with fail
            refine (HDO2.out _ _ HO7.out).mono ?_
            rintro e w8 ⟨rfl, hO8, _⟩
            have HO8 := Lib.hid hO8
            clear hO8
            go_wp2_with fail
            go_roundw
            case rel => exact ⟨j + 1, _, m6, by simp, by omega, HO8.out, HPI6.out, hd66⟩
            case measure => simp [intOf]; omega
          · have d5 : decide (0 ≤ n) = true := by rw [decide_eq_true_eq]; omega
            have d6 : decide (n < 0) = false := decide_eq_false hn
            have d8 : decide (n < (m6.done : Int)) = false := by
              have := HPI6.out.le (by omega)
              rw [decide_eq_false_iff_not]
              omega
            cases hb : wd with
            | true =>
              obtain rfl := hE hb
              obtain rfl : wd6 = true := hE6
              subst hb
              clear hn hE
              go_wp2_with fail
              refine HDO.out.mono ?_
              rintro e w7 ⟨rfl, hO7, _⟩
              have HO7 := Lib.hid hO7
              clear hO7 HO6 HDO
              go_wp2_with fail
              refine (HDO2.out _ _ HO7.out).mono ?_
              rintro e w8 ⟨rfl, hO8, _⟩
              have HO8 := Lib.hid hO8
              clear hO8
              go_wp2_with fail
              go_roundw
              case rel => exact ⟨j + 1, _, m6, by simp, by omega, HO8.out, HPI6.out, hd66⟩
              case measure => simp [intOf]; omega
            | false =>
              subst hb
              cases hb6 : wd6 with
              | true =>
                obtain rfl : E = 74 := by rw [hb6] at hE6; exact eq_of_beq hE6.symm
                subst hb6
                clear hn hE hE6
                go_wp2_with fail
                refine HDO.out.mono ?_
                rintro e w7 ⟨rfl, hO7, _⟩
                have HO7 := Lib.hid hO7
                clear hO7 HO6 HDO
                go_wp2_with fail
                refine (HDO2.out _ _ HO7.out).mono ?_
                rintro e w8 ⟨rfl, hO8, _⟩
                have HO8 := Lib.hid hO8
                clear hO8
                go_wp2_with fail
                go_roundw
                case rel => exact ⟨j + 1, _, m6, by simp, by omega, HO8.out, HPI6.out, hd66⟩
                case measure => simp [intOf]; omega
              | false =>
                have d7 : (E == 74) = false := by rw [hb6] at hE6; exact hE6.symm
                subst hb6
                clear hn hE hE6
                go_wp2_with fail
                refine HDO.out.mono ?_
                rintro e w7 ⟨rfl, hO7, _⟩
                have HO7 := Lib.hid hO7
                clear hO7 HO6 HDO
                go_wp2_with fail
                refine (HDO2.out _ _ HO7.out).mono ?_
                rintro e w8 ⟨rfl, hO8, _⟩
                have HO8 := Lib.hid hO8
                clear hO8
                go_wp2_with fail
                go_roundw
                case rel => exact ⟨j + 1, _, m6, by simp, by omega, HO8.out, HPI6.out, hd66⟩
                case measure => simp [intOf]; omega
        by_cases k2 : xk = 2
        · subst k2
          have HC6 := Lib.hid (HO5.out.read HM.out HWF.out.1 HWF.out.2.1 HWF.out.2.2)
          have HST0 := Lib.hid (step_rd m xz xt xn)
          obtain ⟨m6, hm6⟩ : ∃ x, x = m := ⟨_, rfl⟩
          obtain ⟨RL, hRL⟩ : ∃ x, (rdB m xz xt xn).length = x := ⟨_, rfl⟩
          obtain ⟨E, hE0⟩ : ∃ x, rdErr m xz xt xn = x := ⟨_, rfl⟩
          rw [hE0] at HST0
          have HST : Hid (StepOK m E m6) := Lib.hid (by rw [hm6]; exact HST0.out)
          rw [hE0, hRL] at HC6
          clear hE0 HST0 hRL
          go_wp2_with fail
          refine HC6.out.mono ?_
          rintro e w6 ⟨ra, rc, rfl, _, _, _, hO6, _⟩
          rw [← hm6] at hO6
          have HO6 := Lib.hid hO6
          clear hm6
          clear hO6 HC6 HO5
          have HPI6 := Lib.hid (HST.out.c n HPI.out)
          have hd66 : m6.done ≤ j + 1 := Nat.le_trans HST.out.d (by omega)
          have HDO := Lib.hid (HO6.out.done HM.out)
          have HDO2 : Hid (∀ w F, OwnZ D W w d F m6 → Calls Try.prog 23 #[.pointer (some ⟨d, 0, none⟩)] w (ToldZ D W w d F m6 (.bool m6.down))) := Lib.hid fun w F h => h.down HM.out
          obtain ⟨wd6, hwd6⟩ : ∃ x, m6.down = x := ⟨_, rfl⟩
          rw [hwd6] at HDO2
          have hE6 : wd6 = (E == 74) := by rw [← hwd6]; exact HST.out.b
          have HWD6 := Lib.hid hwd6
          clear hwd6
          have hE := HST.out.a
          rw [HWD.out] at hE
          by_cases hn : n < 0
          · have d5 : decide (0 ≤ n) = false := by rw [decide_eq_false_iff_not]; omega
            have d6 : decide (n < 0) = true := decide_eq_true hn
            obtain rfl : wd = false := by rw [← HWD.out]; exact (HPI.out.neg hn).2
            obtain rfl : wd6 = false := by rw [← HWD6.out]; exact (HPI6.out.neg hn).2
            have d7 : (E == 74) = false := hE6.symm
            clear hn hE hE6
            go_wp2_with fail
            refine (HDO2.out _ _ HO6.out).mono ?_
            rintro e w7 ⟨rfl, hO7, _⟩
            have HO7 := Lib.hid hO7
            clear hO7 HO6 HDO
            go_wp2_with fail
            refine (HDO2.out _ _ HO7.out).mono ?_
            rintro e w8 ⟨rfl, hO8, _⟩
            have HO8 := Lib.hid hO8
            clear hO8
            go_wp2_with fail
            go_roundw
            case rel => exact ⟨j + 1, _, m6, by simp, by omega, HO8.out, HPI6.out, hd66⟩
            case measure => simp [intOf]; omega
          · have d5 : decide (0 ≤ n) = true := by rw [decide_eq_true_eq]; omega
            have d6 : decide (n < 0) = false := decide_eq_false hn
            have d8 : decide (n < (m6.done : Int)) = false := by
              have := HPI6.out.le (by omega)
              rw [decide_eq_false_iff_not]
              omega
            cases hb : wd with
            | true =>
              obtain rfl := hE hb
              obtain rfl : wd6 = true := hE6
              subst hb
              clear hn hE
              go_wp2_with fail
              refine HDO.out.mono ?_
              rintro e w7 ⟨rfl, hO7, _⟩
              have HO7 := Lib.hid hO7
              clear hO7 HO6 HDO
              go_wp2_with fail
              refine (HDO2.out _ _ HO7.out).mono ?_
              rintro e w8 ⟨rfl, hO8, _⟩
              have HO8 := Lib.hid hO8
              clear hO8
              go_wp2_with fail
              go_roundw
              case rel => exact ⟨j + 1, _, m6, by simp, by omega, HO8.out, HPI6.out, hd66⟩
              case measure => simp [intOf]; omega
            | false =>
              subst hb
              cases hb6 : wd6 with
              | true =>
                obtain rfl : E = 74 := by rw [hb6] at hE6; exact eq_of_beq hE6.symm
                subst hb6
                clear hn hE hE6
                go_wp2_with fail
                refine HDO.out.mono ?_
                rintro e w7 ⟨rfl, hO7, _⟩
                have HO7 := Lib.hid hO7
                clear hO7 HO6 HDO
                go_wp2_with fail
                refine (HDO2.out _ _ HO7.out).mono ?_
                rintro e w8 ⟨rfl, hO8, _⟩
                have HO8 := Lib.hid hO8
                clear hO8
                go_wp2_with fail
                go_roundw
                case rel => exact ⟨j + 1, _, m6, by simp, by omega, HO8.out, HPI6.out, hd66⟩
                case measure => simp [intOf]; omega
              | false =>
                have d7 : (E == 74) = false := by rw [hb6] at hE6; exact hE6.symm
                subst hb6
                clear hn hE hE6
                go_wp2_with fail
                refine HDO.out.mono ?_
                rintro e w7 ⟨rfl, hO7, _⟩
                have HO7 := Lib.hid hO7
                clear hO7 HO6 HDO
                go_wp2_with fail
                refine (HDO2.out _ _ HO7.out).mono ?_
                rintro e w8 ⟨rfl, hO8, _⟩
                have HO8 := Lib.hid hO8
                clear hO8
                go_wp2_with fail
                go_roundw
                case rel => exact ⟨j + 1, _, m6, by simp, by omega, HO8.out, HPI6.out, hd66⟩
                case measure => simp [intOf]; omega
        by_cases k3 : xk = 3
        · subst k3
          have HC6 := Lib.hid (HO5.out.reset HM.out hd6 HWF.out.1)
          have HST0 := Lib.hid (step_res m xz)
          obtain ⟨m6, hm6⟩ : ∃ x, resM m xz = x := ⟨_, rfl⟩
          obtain ⟨E, hE0⟩ : ∃ x, cmdR m (resErr m xz) = x := ⟨_, rfl⟩
          rw [hm6, hE0] at HST0
          have HST := HST0
          rw [hm6, hE0] at HC6
          clear hm6 hE0 HST0
          go_wp2_with fail
          refine HC6.out.mono ?_
          rintro e w6 ⟨rfl, F6, hO6, _, _⟩
          have HO6 := Lib.hid hO6
          clear hO6 HC6 HO5
          have HPI6 := Lib.hid (HST.out.c n HPI.out)
          have hd66 : m6.done ≤ j + 1 := Nat.le_trans HST.out.d (by omega)
          have HDO := Lib.hid (HO6.out.done HM.out)
          have HDO2 : Hid (∀ w F, OwnZ D W w d F m6 → Calls Try.prog 23 #[.pointer (some ⟨d, 0, none⟩)] w (ToldZ D W w d F m6 (.bool m6.down))) := Lib.hid fun w F h => h.down HM.out
          obtain ⟨wd6, hwd6⟩ : ∃ x, m6.down = x := ⟨_, rfl⟩
          rw [hwd6] at HDO2
          have hE6 : wd6 = (E == 74) := by rw [← hwd6]; exact HST.out.b
          have HWD6 := Lib.hid hwd6
          clear hwd6
          have hE := HST.out.a
          rw [HWD.out] at hE
          by_cases hn : n < 0
          · have d5 : decide (0 ≤ n) = false := by rw [decide_eq_false_iff_not]; omega
            have d6 : decide (n < 0) = true := decide_eq_true hn
            obtain rfl : wd = false := by rw [← HWD.out]; exact (HPI.out.neg hn).2
            obtain rfl : wd6 = false := by rw [← HWD6.out]; exact (HPI6.out.neg hn).2
            have d7 : (E == 74) = false := hE6.symm
            clear hn hE hE6
            go_wp2_with fail
            refine (HDO2.out _ _ HO6.out).mono ?_
            rintro e w7 ⟨rfl, hO7, _⟩
            have HO7 := Lib.hid hO7
            clear hO7 HO6 HDO
            go_wp2_with fail
            refine (HDO2.out _ _ HO7.out).mono ?_
            rintro e w8 ⟨rfl, hO8, _⟩
            have HO8 := Lib.hid hO8
            clear hO8
            go_wp2_with fail
            go_roundw
            case rel => exact ⟨j + 1, _, m6, by simp, by omega, HO8.out, HPI6.out, hd66⟩
            case measure => simp [intOf]; omega
          · have d5 : decide (0 ≤ n) = true := by rw [decide_eq_true_eq]; omega
            have d6 : decide (n < 0) = false := decide_eq_false hn
            have d8 : decide (n < (m6.done : Int)) = false := by
              have := HPI6.out.le (by omega)
              rw [decide_eq_false_iff_not]
              omega
            cases hb : wd with
            | true =>
              obtain rfl := hE hb
              obtain rfl : wd6 = true := hE6
              subst hb
              clear hn hE
              go_wp2_with fail
              refine HDO.out.mono ?_
              rintro e w7 ⟨rfl, hO7, _⟩
              have HO7 := Lib.hid hO7
              clear hO7 HO6 HDO
              go_wp2_with fail
              refine (HDO2.out _ _ HO7.out).mono ?_
              rintro e w8 ⟨rfl, hO8, _⟩
              have HO8 := Lib.hid hO8
              clear hO8
              go_wp2_with fail
              go_roundw
              case rel => exact ⟨j + 1, _, m6, by simp, by omega, HO8.out, HPI6.out, hd66⟩
              case measure => simp [intOf]; omega
            | false =>
              subst hb
              cases hb6 : wd6 with
              | true =>
                obtain rfl : E = 74 := by rw [hb6] at hE6; exact eq_of_beq hE6.symm
                subst hb6
                clear hn hE hE6
                go_wp2_with fail
                refine HDO.out.mono ?_
                rintro e w7 ⟨rfl, hO7, _⟩
                have HO7 := Lib.hid hO7
                clear hO7 HO6 HDO
                go_wp2_with fail
                refine (HDO2.out _ _ HO7.out).mono ?_
                rintro e w8 ⟨rfl, hO8, _⟩
                have HO8 := Lib.hid hO8
                clear hO8
                go_wp2_with fail
                go_roundw
                case rel => exact ⟨j + 1, _, m6, by simp, by omega, HO8.out, HPI6.out, hd66⟩
                case measure => simp [intOf]; omega
              | false =>
                have d7 : (E == 74) = false := by rw [hb6] at hE6; exact hE6.symm
                subst hb6
                clear hn hE hE6
                go_wp2_with fail
                refine HDO.out.mono ?_
                rintro e w7 ⟨rfl, hO7, _⟩
                have HO7 := Lib.hid hO7
                clear hO7 HO6 HDO
                go_wp2_with fail
                refine (HDO2.out _ _ HO7.out).mono ?_
                rintro e w8 ⟨rfl, hO8, _⟩
                have HO8 := Lib.hid hO8
                clear hO8
                go_wp2_with fail
                go_roundw
                case rel => exact ⟨j + 1, _, m6, by simp, by omega, HO8.out, HPI6.out, hd66⟩
                case measure => simp [intOf]; omega
        by_cases k4 : xk = 4
        · subst k4
          have HC6 := Lib.hid (HO5.out.finish HM.out hd6 HWF.out.1)
          have HST0 := Lib.hid (step_fin m xz)
          obtain ⟨m6, hm6⟩ : ∃ x, finM m xz = x := ⟨_, rfl⟩
          obtain ⟨E, hE0⟩ : ∃ x, cmdR m (finErr m xz) = x := ⟨_, rfl⟩
          rw [hm6, hE0] at HST0
          have HST := HST0
          rw [hm6, hE0] at HC6
          clear hm6 hE0 HST0
          go_wp2_with fail
          refine HC6.out.mono ?_
          rintro e w6 ⟨rfl, F6, hO6, _, _⟩
          have HO6 := Lib.hid hO6
          clear hO6 HC6 HO5
          have HPI6 := Lib.hid (HST.out.c n HPI.out)
          have hd66 : m6.done ≤ j + 1 := Nat.le_trans HST.out.d (by omega)
          have HDO := Lib.hid (HO6.out.done HM.out)
          have HDO2 : Hid (∀ w F, OwnZ D W w d F m6 → Calls Try.prog 23 #[.pointer (some ⟨d, 0, none⟩)] w (ToldZ D W w d F m6 (.bool m6.down))) := Lib.hid fun w F h => h.down HM.out
          obtain ⟨wd6, hwd6⟩ : ∃ x, m6.down = x := ⟨_, rfl⟩
          rw [hwd6] at HDO2
          have hE6 : wd6 = (E == 74) := by rw [← hwd6]; exact HST.out.b
          have HWD6 := Lib.hid hwd6
          clear hwd6
          have hE := HST.out.a
          rw [HWD.out] at hE
          by_cases hn : n < 0
          · have d5 : decide (0 ≤ n) = false := by rw [decide_eq_false_iff_not]; omega
            have d6 : decide (n < 0) = true := decide_eq_true hn
            obtain rfl : wd = false := by rw [← HWD.out]; exact (HPI.out.neg hn).2
            obtain rfl : wd6 = false := by rw [← HWD6.out]; exact (HPI6.out.neg hn).2
            have d7 : (E == 74) = false := hE6.symm
            clear hn hE hE6
            go_wp2_with fail
            refine (HDO2.out _ _ HO6.out).mono ?_
            rintro e w7 ⟨rfl, hO7, _⟩
            have HO7 := Lib.hid hO7
            clear hO7 HO6 HDO
            go_wp2_with fail
            refine (HDO2.out _ _ HO7.out).mono ?_
            rintro e w8 ⟨rfl, hO8, _⟩
            have HO8 := Lib.hid hO8
            clear hO8
            go_wp2_with fail
            go_roundw
            case rel => exact ⟨j + 1, _, m6, by simp, by omega, HO8.out, HPI6.out, hd66⟩
            case measure => simp [intOf]; omega
          · have d5 : decide (0 ≤ n) = true := by rw [decide_eq_true_eq]; omega
            have d6 : decide (n < 0) = false := decide_eq_false hn
            have d8 : decide (n < (m6.done : Int)) = false := by
              have := HPI6.out.le (by omega)
              rw [decide_eq_false_iff_not]
              omega
            cases hb : wd with
            | true =>
              obtain rfl := hE hb
              obtain rfl : wd6 = true := hE6
              subst hb
              clear hn hE
              go_wp2_with fail
              refine HDO.out.mono ?_
              rintro e w7 ⟨rfl, hO7, _⟩
              have HO7 := Lib.hid hO7
              clear hO7 HO6 HDO
              go_wp2_with fail
              refine (HDO2.out _ _ HO7.out).mono ?_
              rintro e w8 ⟨rfl, hO8, _⟩
              have HO8 := Lib.hid hO8
              clear hO8
              go_wp2_with fail
              go_roundw
              case rel => exact ⟨j + 1, _, m6, by simp, by omega, HO8.out, HPI6.out, hd66⟩
              case measure => simp [intOf]; omega
            | false =>
              subst hb
              cases hb6 : wd6 with
              | true =>
                obtain rfl : E = 74 := by rw [hb6] at hE6; exact eq_of_beq hE6.symm
                subst hb6
                clear hn hE hE6
                go_wp2_with fail
                refine HDO.out.mono ?_
                rintro e w7 ⟨rfl, hO7, _⟩
                have HO7 := Lib.hid hO7
                clear hO7 HO6 HDO
                go_wp2_with fail
                refine (HDO2.out _ _ HO7.out).mono ?_
                rintro e w8 ⟨rfl, hO8, _⟩
                have HO8 := Lib.hid hO8
                clear hO8
                go_wp2_with fail
                go_roundw
                case rel => exact ⟨j + 1, _, m6, by simp, by omega, HO8.out, HPI6.out, hd66⟩
                case measure => simp [intOf]; omega
              | false =>
                have d7 : (E == 74) = false := by rw [hb6] at hE6; exact hE6.symm
                subst hb6
                clear hn hE hE6
                go_wp2_with fail
                refine HDO.out.mono ?_
                rintro e w7 ⟨rfl, hO7, _⟩
                have HO7 := Lib.hid hO7
                clear hO7 HO6 HDO
                go_wp2_with fail
                refine (HDO2.out _ _ HO7.out).mono ?_
                rintro e w8 ⟨rfl, hO8, _⟩
                have HO8 := Lib.hid hO8
                clear hO8
                go_wp2_with fail
                go_roundw
                case rel => exact ⟨j + 1, _, m6, by simp, by omega, HO8.out, HPI6.out, hd66⟩
                case measure => simp [intOf]; omega
        by_cases k5 : xk = 5
        · subst k5
          have HC6 := Lib.hid (HO5.out.flush HM.out hd6)
          have HST0 := Lib.hid (step_flu m)
          obtain ⟨m6, hm6⟩ : ∃ x, fluM m = x := ⟨_, rfl⟩
          obtain ⟨E, hE0⟩ : ∃ x, cmdR m (fluErr m) = x := ⟨_, rfl⟩
          rw [hm6, hE0] at HST0
          have HST := HST0
          rw [hm6, hE0] at HC6
          clear hm6 hE0 HST0
          go_wp2_with fail
          refine HC6.out.mono ?_
          rintro e w6 ⟨rfl, F6, hO6, _, _⟩
          have HO6 := Lib.hid hO6
          clear hO6 HC6 HO5
          have HPI6 := Lib.hid (HST.out.c n HPI.out)
          have hd66 : m6.done ≤ j + 1 := Nat.le_trans HST.out.d (by omega)
          have HDO := Lib.hid (HO6.out.done HM.out)
          have HDO2 : Hid (∀ w F, OwnZ D W w d F m6 → Calls Try.prog 23 #[.pointer (some ⟨d, 0, none⟩)] w (ToldZ D W w d F m6 (.bool m6.down))) := Lib.hid fun w F h => h.down HM.out
          obtain ⟨wd6, hwd6⟩ : ∃ x, m6.down = x := ⟨_, rfl⟩
          rw [hwd6] at HDO2
          have hE6 : wd6 = (E == 74) := by rw [← hwd6]; exact HST.out.b
          have HWD6 := Lib.hid hwd6
          clear hwd6
          have hE := HST.out.a
          rw [HWD.out] at hE
          by_cases hn : n < 0
          · have d5 : decide (0 ≤ n) = false := by rw [decide_eq_false_iff_not]; omega
            have d6 : decide (n < 0) = true := decide_eq_true hn
            obtain rfl : wd = false := by rw [← HWD.out]; exact (HPI.out.neg hn).2
            obtain rfl : wd6 = false := by rw [← HWD6.out]; exact (HPI6.out.neg hn).2
            have d7 : (E == 74) = false := hE6.symm
            clear hn hE hE6
            go_wp2_with fail
            refine (HDO2.out _ _ HO6.out).mono ?_
            rintro e w7 ⟨rfl, hO7, _⟩
            have HO7 := Lib.hid hO7
            clear hO7 HO6 HDO
            go_wp2_with fail
            refine (HDO2.out _ _ HO7.out).mono ?_
            rintro e w8 ⟨rfl, hO8, _⟩
            have HO8 := Lib.hid hO8
            clear hO8
            go_wp2_with fail
            go_roundw
            case rel => exact ⟨j + 1, _, m6, by simp, by omega, HO8.out, HPI6.out, hd66⟩
            case measure => simp [intOf]; omega
          · have d5 : decide (0 ≤ n) = true := by rw [decide_eq_true_eq]; omega
            have d6 : decide (n < 0) = false := decide_eq_false hn
            have d8 : decide (n < (m6.done : Int)) = false := by
              have := HPI6.out.le (by omega)
              rw [decide_eq_false_iff_not]
              omega
            cases hb : wd with
            | true =>
              obtain rfl := hE hb
              obtain rfl : wd6 = true := hE6
              subst hb
              clear hn hE
              go_wp2_with fail
              refine HDO.out.mono ?_
              rintro e w7 ⟨rfl, hO7, _⟩
              have HO7 := Lib.hid hO7
              clear hO7 HO6 HDO
              go_wp2_with fail
              refine (HDO2.out _ _ HO7.out).mono ?_
              rintro e w8 ⟨rfl, hO8, _⟩
              have HO8 := Lib.hid hO8
              clear hO8
              go_wp2_with fail
              go_roundw
              case rel => exact ⟨j + 1, _, m6, by simp, by omega, HO8.out, HPI6.out, hd66⟩
              case measure => simp [intOf]; omega
            | false =>
              subst hb
              cases hb6 : wd6 with
              | true =>
                obtain rfl : E = 74 := by rw [hb6] at hE6; exact eq_of_beq hE6.symm
                subst hb6
                clear hn hE hE6
                go_wp2_with fail
                refine HDO.out.mono ?_
                rintro e w7 ⟨rfl, hO7, _⟩
                have HO7 := Lib.hid hO7
                clear hO7 HO6 HDO
                go_wp2_with fail
                refine (HDO2.out _ _ HO7.out).mono ?_
                rintro e w8 ⟨rfl, hO8, _⟩
                have HO8 := Lib.hid hO8
                clear hO8
                go_wp2_with fail
                go_roundw
                case rel => exact ⟨j + 1, _, m6, by simp, by omega, HO8.out, HPI6.out, hd66⟩
                case measure => simp [intOf]; omega
              | false =>
                have d7 : (E == 74) = false := by rw [hb6] at hE6; exact hE6.symm
                subst hb6
                clear hn hE hE6
                go_wp2_with fail
                refine HDO.out.mono ?_
                rintro e w7 ⟨rfl, hO7, _⟩
                have HO7 := Lib.hid hO7
                clear hO7 HO6 HDO
                go_wp2_with fail
                refine (HDO2.out _ _ HO7.out).mono ?_
                rintro e w8 ⟨rfl, hO8, _⟩
                have HO8 := Lib.hid hO8
                clear hO8
                go_wp2_with fail
                go_roundw
                case rel => exact ⟨j + 1, _, m6, by simp, by omega, HO8.out, HPI6.out, hd66⟩
                case measure => simp [intOf]; omega
        have b1 : (xk == 1) = false := by rw [beq_eq_false_iff_ne]; exact k1
        have b2 : (xk == 2) = false := by rw [beq_eq_false_iff_ne]; exact k2
        have b3 : (xk == 3) = false := by rw [beq_eq_false_iff_ne]; exact k3
        have b4 : (xk == 4) = false := by rw [beq_eq_false_iff_ne]; exact k4
        have b5 : (xk == 5) = false := by rw [beq_eq_false_iff_ne]; exact k5
        clear k1 k2 k3 k4 k5
        go_wp2_with fail
        go_roundw
        case rel => exact ⟨j + 1, _, m, by simp, by omega, HO5.out, HPI.out, by omega⟩
        case measure => simp [intOf]; omega
      · obtain rfl : j = N := by omega
        have d1 : decide ((j : Int) < (j : Int)) = false := by simp
        have HDW := Lib.hid (HO.out.down HM.out)
        have HDO : Hid (∀ w F, OwnZ D W w d F m → Calls Try.prog 24 #[.pointer (some ⟨d, 0, none⟩)] w (ToldZ D W w d F m (.int .i64 (m.done : Int)))) := Lib.hid fun w F h => h.done HM.out
        have HCR : Hid (∀ w F, OwnZ D W w d F m → Calls Try.prog 17 #[.pointer (some ⟨d, 0, none⟩), .slice none 0 0] w (MovedZ D W w d F (crashM m []) (.tuple #[]))) := Lib.hid fun w F h => h.crash HM.out (ks := []) (a := none) (c := 0) (by simp) (Nat.le_refl _) (by simp [maxLen]) (fun h => absurd h (by simp))
        have HDW2 : Hid (∀ w F, OwnZ D W w d F (crashM m []) → Calls Try.prog 23 #[.pointer (some ⟨d, 0, none⟩)] w (ToldZ D W w d F (crashM m []) (.bool false))) := Lib.hid fun w F h => h.down HM.out
        have HFL : Hid (∀ w F, OwnZ D W w d F (crashM m []) → Calls Try.prog 15 #[.pointer (some ⟨d, 0, none⟩)] w (MovedZ D W w d F (fluM (crashM m [])) (.int .i64 0))) := Lib.hid fun w F h => h.flush HM.out (by show m.done < 1000000; omega)
        obtain ⟨wd, hwd⟩ : ∃ x, m.down = x := ⟨_, rfl⟩
        rw [hwd] at HDW
        have HWD := Lib.hid hwd
        clear hwd
        cases hb : wd with
        | true =>
          subst hb
          have hn : 0 ≤ n := by
            rcases Int.lt_or_le n 0 with h | h
            · have := (HPI.out.neg h).2
              rw [HWD.out] at this
              cases this
            · exact h
          have d2 : ((m.done : Int) == n) = true := by
            rw [beq_iff_eq]
            exact HPI.out.dn hn HWD.out
          clear hn
          go_wp2_with fail
          refine HDW.out.mono ?_
          rintro e w5 ⟨rfl, hO5, _⟩
          have HO5 := Lib.hid hO5
          clear hO5
          go_wp2_with fail
          refine (HDO.out _ _ HO5.out).mono ?_
          rintro e w6 ⟨rfl, hO6, _⟩
          have HO6 := Lib.hid hO6
          clear hO6
          go_wp2_with fail
          refine (HCR.out _ _ HO6.out).mono ?_
          rintro e w7 ⟨rfl, F7, hO7, _, _⟩
          have HO7 := Lib.hid hO7
          clear hO7
          go_wp2_with fail
          refine (HDW2.out _ _ HO7.out).mono ?_
          rintro e w8 ⟨rfl, hO8, _⟩
          have HO8 := Lib.hid hO8
          clear hO8
          go_wp2_with fail
          refine (HFL.out _ _ HO8.out).mono ?_
          rintro e w9 ⟨rfl, F9, hO9, _, _⟩
          have HO9 := Lib.hid hO9
          clear hO9
          go_wp2_with fail
          refine (awake_c HM.out _).mono ?_
          rintro e w10 ⟨rfl, f10⟩
          have HF10 := Lib.hid (HO9.out.fr.trans f10)
          clear f10
          go_wp2_with fail
          go_ret
          exact ⟨rfl, FIN.out _ HF10.out⟩
        | false =>
          subst hb
          go_wp2_with fail
          refine HDW.out.mono ?_
          rintro e w6 ⟨rfl, hO6, _⟩
          have HO6 := Lib.hid hO6
          clear hO6
          go_wp2_with fail
          refine (HCR.out _ _ HO6.out).mono ?_
          rintro e w7 ⟨rfl, F7, hO7, _, _⟩
          have HO7 := Lib.hid hO7
          clear hO7
          go_wp2_with fail
          refine (HDW2.out _ _ HO7.out).mono ?_
          rintro e w8 ⟨rfl, hO8, _⟩
          have HO8 := Lib.hid hO8
          clear hO8
          go_wp2_with fail
          refine (HFL.out _ _ HO8.out).mono ?_
          rintro e w9 ⟨rfl, F9, hO9, _, _⟩
          have HO9 := Lib.hid hO9
          clear hO9
          go_wp2_with fail
          refine (awake_c HM.out _).mono ?_
          rintro e w10 ⟨rfl, f10⟩
          have HF10 := Lib.hid (HO9.out.fr.trans f10)
          clear f10
          go_wp2_with fail
          go_ret
          exact ⟨rfl, FIN.out _ HF10.out⟩
end
end Go.Proofs.Ytkoebafalbcnbaa
