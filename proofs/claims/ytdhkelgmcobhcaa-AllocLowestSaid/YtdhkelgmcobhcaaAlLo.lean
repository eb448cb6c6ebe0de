/-
  Layer 8: the walk of AllocLowest, over the contracts of a table.
-/
import Derived.Test.YtdhkelgmcobhcaaAlD
import Derived.Test.YtdhkelgmcobhcaaAlE
namespace Go.Proofs.Ytdhkelgmcobhcaa
set_option linter.unusedVariables false
open Go.RowKit

section
variable {D : World → Nat → (Nat → Prop) → Dev → Prop} {T : World → Nat → (Nat → Prop) → Tb → Prop}
set_option maxRecDepth 20000 in
set_option maxHeartbeats 16000000 in
theorem allocLowest_walk (M : AllocOK D T) (W : World) (z : Int) (wz : wf64 z) (a : Option Addr) (cap : Nat) (l : List Int) (hc : l.length ≤ cap) (hm : cap ≤ maxLen) (rd : Ints W a l) (x : Int) (wx : wf64 x) :
    Calls Try.prog 7 #[.int .i64 z, .slice a l.length cap, .int .i64 x] W fun e w' => e = .returned (.bool true) ∧ Below W.heap.size W w' := by
  have HM := Lib.hid M
  have HRD := Lib.hid rd
  have HWX := Lib.hid wx
  have HNEW := Lib.hid (newT_c M z W wz W (Fr.refl _ _))
  have fin : ∀ w' : World, Fr No W w' → Below W.heap.size W w' := fun w' f => f.below (Nat.le_refl _) (fun _ h => h.elim)
  have FIN := Lib.hid fin
  have hzb := wf_out wz
  unfold maxLen at hm
  obtain ⟨N, hN⟩ : ∃ N, l.length = N := ⟨_, rfl⟩
  rw [hN] at hc
  rw [hN]
  have HN := Lib.hid hN
  clear fin rd wz wx hN
  go_enter Try.func7, Try.ntmps7
  go_wp2_with fail
  refine HNEW.out.mono ?_
  rintro e w1 ⟨f1, ⟨hz, rfl⟩ | ⟨hz, t, F1, rfl, h1, _⟩⟩
  · have he : ∀ w : World, (binOp .eql 23 (.pointer none) (.pointer none)).run Try.prog w = .ok (.bool true) w := fun _ => rfl
    have he2 : ∀ w : World, (binOp .neq 23 (.pointer none) (.pointer none)).run Try.prog w = .ok (.bool false) w := fun _ => rfl
    have HF1 := Lib.hid f1
    clear f1 HNEW
    by_cases h1 : z < 1
    · have d1 : decide (z < 1) = true := decide_eq_true h1
      clear hz h1 hzb
      go_wp2_with fail
      refine (awake_c HM.out _).mono ?_
      rintro e w2 ⟨rfl, f2⟩
      have HF2 := Lib.hid (HF1.out.trans f2)
      clear f2
      go_wp2_with fail
      go_ret
      exact ⟨rfl, FIN.out _ HF2.out⟩
    · have d1 : decide (z < 1) = false := decide_eq_false h1
      have d2 : decide ((64 : Int) < z) = true := by rw [decide_eq_true_eq]; omega
      clear hz h1 hzb
      go_wp2_with fail
      refine (awake_c HM.out _).mono ?_
      rintro e w2 ⟨rfl, f2⟩
      have HF2 := Lib.hid (HF1.out.trans f2)
      clear f2
      go_wp2_with fail
      go_ret
      exact ⟨rfl, FIN.out _ HF2.out⟩
  have he : ∀ w : World, (binOp .eql 23 (.pointer (some ⟨t, 0, none⟩)) (.pointer none)).run Try.prog w = .ok (.bool false) w := fun _ => rfl
  have he2 : ∀ w : World, (binOp .neq 23 (.pointer (some ⟨t, 0, none⟩)) (.pointer none)).run Try.prog w = .ok (.bool true) w := fun _ => rfl
  have H1 := Lib.hid h1
  clear h1 f1 HNEW hzb
  by_cases h80 : 80 < N
  · have d1 : decide ((80 : Int) < (N : Int)) = true := by rw [decide_eq_true_eq]; omega
    go_wp2_with fail
    refine (awake_c HM.out _).mono ?_
    rintro e w2 ⟨rfl, f2⟩
    have HF2 := Lib.hid (H1.out.fr.trans f2)
    clear f2
    go_wp2_with fail
    go_ret
    exact ⟨rfl, FIN.out _ HF2.out⟩
  have d1 : decide ((80 : Int) < (N : Int)) = false := by rw [decide_eq_false_iff_not]; omega
  obtain ⟨Z, rfl⟩ : ∃ Z : Nat, z = (Z : Int) := ⟨z.toNat, by omega⟩
  have HZ0 : Hid (zerosT (newT (Z : Int)) = Z ∧ (newT (Z : Int)).r.length = Z) := Lib.hid ⟨by rw [zeros_new]; omega, by simp [newT]⟩
  go_wp2_with fail
  clear d1
  go_loopw [8, 41] (fun fv i wr => ∃ (j : Nat) (F : Nat → Prop) (b : Tb), i = .int .i64 j ∧ j ≤ N ∧ fv = .int .i64 (zerosT b : Int) ∧ OwnT T W wr t F b ∧ b.r.length = Z) (fun _ i _ => N - (intOf i).toNat)
  case atStart => exact ⟨0, F1, _, rfl, Nat.zero_le _, by rw [HZ0.out.1], H1.out, HZ0.out.2⟩
  case round =>
    clear H1 HZ0
    obtain ⟨j, F, b, rfl, hj, rfl, hown, hbl⟩ := hrel
    have HO := Lib.hid hown
    have HBL := Lib.hid hbl
    have hzl : zerosT b ≤ 64 := Nat.le_trans (zeros_le b) hown.wt.n64
    clear hown hbl
    by_cases h1 : j < N
    · have d1 : decide ((j : Int) < (N : Int)) = true := by rw [decide_eq_true_eq]; omega
      obtain ⟨bb, o, rfl, hx⟩ := HRD.out (by rw [HN.out]; omega)
      obtain ⟨y, hy⟩ : ∃ y, l[j]? = some y := ⟨_, List.getElem?_eq_getElem (by rw [HN.out]; exact h1)⟩
      have q0 := HO.out.fr.cell (hx j y hy).1 (fun h => h)
      have HC := Lib.hid (HO.out.own HM.out (hx j y hy).2 (show wf64 1 by decide))
      clear hx hy
      by_cases hE : ownE b y 1 = 0
      · obtain ⟨e1, e2⟩ := own_zeros hE
        rw [hE] at HC
        have HL2 := Lib.hid e2
        clear hE e2
        generalize ownT b y 1 = b2 at *
        have d2 : (zerosT b : Int) - 1 = (zerosT b2 : Int) := by omega
        have HD := Lib.hid d2
        clear d2
        go_wp2_with fail
        refine HC.out.mono ?_
        rintro e w2 ⟨rfl, F2, h2, _, _⟩
        have H2 := Lib.hid h2
        clear h2 HC
        go_wp2_with fail
        go_roundw
        case rel => exact ⟨j + 1, F2, b2, by simp, by omega, by rw [← HD.out], H2.out, by rw [HL2.out]; exact HBL.out⟩
        case measure => simp [intOf]; omega
      · rw [own_no hE] at HC
        have dE : (ownE b y 1 == 0) = false := by rw [beq_eq_false_iff_ne]; exact hE
        clear hE
        generalize ownE b y 1 = E at *
        go_wp2_with fail
        refine HC.out.mono ?_
        rintro e w2 ⟨rfl, F2, h2, _, _⟩
        have H2 := Lib.hid h2
        clear h2 HC
        go_wp2_with fail
        go_roundw
        case rel => exact ⟨j + 1, F2, b, by simp, by omega, rfl, H2.out, HBL.out⟩
        case measure => simp [intOf]; omega
    · obtain rfl : j = N := by omega
      have d1 : decide ((j : Int) < (j : Int)) = false := by simp
      obtain ⟨fr, hfr⟩ : ∃ n, zerosT b = n := ⟨_, rfl⟩
      rw [hfr] at hzl
      rw [hfr]
      have HFR := Lib.hid hfr
      clear hfr
      go_wp2_with fail
      go_loopw [11, 53] (fun lv i w2 => ∃ (k : Nat) (F2 : Nat → Prop) (b2 : Tb) (la : Int), i = .int .i64 k ∧ k ≤ fr ∧ lv = .int .i64 la ∧ OwnT T W w2 t F2 b2 ∧ zerosT b2 + k = fr ∧ la < (freeT b2 : Int) ∧ (okRole x = false → k = 0)) (fun _ i _ => fr - (intOf i).toNat)
      case atStart => exact ⟨0, F, b, -1, rfl, Nat.zero_le _, rfl, HO.out, by rw [HFR.out]; rfl, by omega, fun _ => rfl⟩
      case round =>
        clear HO
        obtain ⟨k, F2, b2, la, rfl, hk, rfl, hO2, hzs, hla, hbad⟩ := hrel
        have HO2 := Lib.hid hO2
        clear hO2
        have HTK := Lib.hid (HO2.out.take HM.out HWX.out)
        by_cases hr : okRole x = true
        · have hrx := okRole_iff.1 hr
          have d5 : decide (x < 1) = false := by rw [decide_eq_false_iff_not]; omega
          have d6 : decide ((5 : Int) < x) = false := by rw [decide_eq_false_iff_not]; omega
          by_cases h2 : k < fr
          · have d2 : decide ((k : Int) < (fr : Int)) = true := by rw [decide_eq_true_eq]; omega
            obtain ⟨e1, e2, e3, e4, e5, e6⟩ := take_yes hr (show 0 < zerosT b2 by omega)
            have hf64 : freeT b2 < 64 := by
              have h3 := (free_zeros b2).2 (by omega)
              have := HO2.out.wt.n64
              omega
            have HFZ := Lib.hid (show wf64 (freeT b2 : Int) from wf_small (by omega) (by omega))
            have HR6 := Lib.hid e6
            rw [e1, e2] at HTK
            generalize takT b2 x = b3 at *
            obtain ⟨fz, hfz⟩ : ∃ n, freeT b2 = n := ⟨_, rfl⟩
            rw [hfz] at HTK HR6 hla e5 HFZ
            have d3 : decide ((fz : Int) ≤ la) = false := by rw [decide_eq_false_iff_not]; omega
            clear e1 e2 e4 e6 hfz hf64
            go_wp2_with fail
            refine HTK.out.mono ?_
            rintro e w3 ⟨rfl, F3, hO3, _, _⟩
            have HO3 := Lib.hid hO3
            have HRO := Lib.hid (HO3.out.role HM.out HFZ.out)
            rw [HR6.out] at HRO
            clear hO3 HTK
            have dx : (x == x) = true := by simp
            go_wp2_with fail
            refine HRO.out.mono ?_
            rintro e w4 ⟨rfl, hO4, _⟩
            have HO4 := Lib.hid hO4
            clear hO4
            go_wp2_with fail
            go_roundw
            case rel => exact ⟨k + 1, F3, b3, fz, by simp, by omega, rfl, HO4.out, by omega, by omega, fun h => by rw [hr] at h; cases h⟩
            case measure => simp [intOf]; omega
          · obtain rfl : k = fr := by omega
            have d2 : decide ((k : Int) < (k : Int)) = false := by simp
            have hz0 : zerosT b2 = 0 := by omega
            obtain ⟨e1, e2⟩ := take_none hr hz0
            rw [e1, e2] at HTK
            have HCZ : Hid (∀ w F, OwnT T W w t F b2 → Calls Try.prog 28 #[.pointer (some ⟨t, 0, none⟩), .int .i64 0] w (ToldT T W w t F b2 (.int .i64 0))) := Lib.hid fun w F h => by
              have := h.count HM.out (x := 0) (by decide)
              rw [count_zeros, hz0] at this
              exact this
            clear e1 e2 hz0 hr
            generalize takZ b2 x = tz at *
            go_wp2_with fail
            refine HTK.out.mono ?_
            rintro e w3 ⟨rfl, F3, hO3, _, _⟩
            have HO3 := Lib.hid hO3
            clear hO3 HTK
            go_wp2_with fail
            refine (HCZ.out _ _ HO3.out).mono ?_
            rintro e w4 ⟨rfl, hO4, _⟩
            have HO4 := Lib.hid hO4
            clear hO4
            go_wp2_with fail
            refine (awake_c HM.out _).mono ?_
            rintro e w5 ⟨rfl, f5⟩
            have HF5 := Lib.hid (HO4.out.fr.trans f5)
            clear f5
            go_wp2_with fail
            go_ret
            exact ⟨rfl, FIN.out _ HF5.out⟩
        · have hrf : okRole x = false := by simpa using hr
          obtain rfl := hbad hrf
          have hx5 : ¬ (1 ≤ x ∧ x ≤ 5) := fun h => hr (okRole_iff.2 h)
          obtain ⟨e1, e2, e3⟩ := take_bad (t := b2) hrf
          rw [e1, e2, e3] at HTK
          have hzf : zerosT b2 = fr := by omega
          have HCF : Hid (∀ w F, OwnT T W w t F b2 → Calls Try.prog 28 #[.pointer (some ⟨t, 0, none⟩), .int .i64 0] w (ToldT T W w t F b2 (.int .i64 (fr : Int)))) := Lib.hid fun w F h => by
            have := h.count HM.out (x := 0) (by decide)
            rw [count_zeros, hzf] at this
            exact this
          clear e1 e2 e3 hzf hr hrf hbad
          have dz : ((fr : Int) == (fr : Int)) = true := by simp
          by_cases h2 : 0 < fr
          · have d2 : decide ((0 : Int) < (fr : Int)) = true := by rw [decide_eq_true_eq]; omega
            by_cases hx1 : x < 1
            · have d5 : decide (x < 1) = true := decide_eq_true hx1
              clear hx5 hx1
              go_wp2_with fail
              refine HTK.out.mono ?_
              rintro e w3 ⟨rfl, F3, hO3, _, _⟩
              have HO3 := Lib.hid hO3
              clear hO3 HTK
              go_wp2_with fail
              refine (HCF.out _ _ HO3.out).mono ?_
              rintro e w4 ⟨rfl, hO4, _⟩
              have HO4 := Lib.hid hO4
              clear hO4
              go_wp2_with fail
              refine (awake_c HM.out _).mono ?_
              rintro e w5 ⟨rfl, f5⟩
              have HF5 := Lib.hid (HO4.out.fr.trans f5)
              clear f5
              go_wp2_with fail
              go_ret
              exact ⟨rfl, FIN.out _ HF5.out⟩
            · have d5 : decide (x < 1) = false := decide_eq_false hx1
              have d6 : decide ((5 : Int) < x) = true := by rw [decide_eq_true_eq]; omega
              clear hx5 hx1
              go_wp2_with fail
              refine HTK.out.mono ?_
              rintro e w3 ⟨rfl, F3, hO3, _, _⟩
              have HO3 := Lib.hid hO3
              clear hO3 HTK
              go_wp2_with fail
              refine (HCF.out _ _ HO3.out).mono ?_
              rintro e w4 ⟨rfl, hO4, _⟩
              have HO4 := Lib.hid hO4
              clear hO4
              go_wp2_with fail
              refine (awake_c HM.out _).mono ?_
              rintro e w5 ⟨rfl, f5⟩
              have HF5 := Lib.hid (HO4.out.fr.trans f5)
              clear f5
              go_wp2_with fail
              go_ret
              exact ⟨rfl, FIN.out _ HF5.out⟩
          · obtain rfl : fr = 0 := by omega
            by_cases hx1 : x < 1
            · have d5 : decide (x < 1) = true := decide_eq_true hx1
              clear hx5 hx1
              go_wp2_with fail
              refine (awake_c HM.out _).mono ?_
              rintro e w5 ⟨rfl, f5⟩
              have HF5 := Lib.hid (HO2.out.fr.trans f5)
              clear f5
              go_wp2_with fail
              go_ret
              exact ⟨rfl, FIN.out _ HF5.out⟩
            · have d5 : decide (x < 1) = false := decide_eq_false hx1
              have d6 : decide ((5 : Int) < x) = true := by rw [decide_eq_true_eq]; omega
              clear hx5 hx1
              go_wp2_with fail
              refine (awake_c HM.out _).mono ?_
              rintro e w5 ⟨rfl, f5⟩
              have HF5 := Lib.hid (HO2.out.fr.trans f5)
              clear f5
              go_wp2_with fail
              go_ret
              exact ⟨rfl, FIN.out _ HF5.out⟩
end
end Go.Proofs.Ytdhkelgmcobhcaa
