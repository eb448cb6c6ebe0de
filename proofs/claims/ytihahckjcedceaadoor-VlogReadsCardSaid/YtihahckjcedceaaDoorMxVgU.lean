/-
  The walk of the statement VlogReads.
-/
import Derived.Test.YtihahckjcedceaaDoorMxVgT
import Derived.BigQuiet
import Derived.Deep.RegionHeld3
import Derived.Deep.QuietTactic
namespace Go.Proofs.YtihahckjcedceaaDoor
set_option linter.unusedVariables false
set_option linter.unusedSimpArgs false
open Go.RowKit

set_option maxRecDepth 100000 in
set_option maxHeartbeats 12800000 in
theorem vlogReads_walk (W : World) (ht : Tab W) (a : Option Addr) (cap : Nat) (l : List Ent) (ra : Option Addr) (rc : Nat) (rl : List UInt8) (z t n : Int) (x : Ky) (hc : l.length ≤ cap) (hm : cap ≤ maxLen) (hi : Ents W (fun _ => True) a l) (hrc : rl.length ≤ rc) (hrm : rc ≤ maxLen) (hrd : Rd W ra rl)
    (wz : (Lit.int .i64 z).wf = true) (wt : (Lit.int .i64 t).wf = true) (wn : (Lit.int .i64 n).wf = true) (hxm : x.u.size ≤ maxLen) :
    Calls Tryd.prog 6 #[.agg #[.slice a l.length cap, .slice ra rl.length rc, .int .i64 z, .int .i64 t, .int .i64 n, .string x.u, .int .i64 x.q, .int .i64 x.k]] W fun e W' => e = .returned (.bool true) ∧ Below W.heap.size W W' := by
  refine Calls.mono (R := PlainRet (.bool true) W) ?_ fun e w' h => h.below
  have hlm := Nat.le_trans hc hm
  have hrm' := Nat.le_trans hrc hrm
  obtain ⟨W0, hW0⟩ : ∃ w, W.alloc (.cells #[.slice a l.length cap, .slice ra rl.length rc, .int .i64 z, .int .i64 t, .int .i64 n, .string x.u, .int .i64 x.q, .int .i64 x.k] 63) = w := ⟨_, rfl⟩
  have K0 : At W0 W.heap.size 63 #[.slice a l.length cap, .slice ra rl.length rc, .int .i64 z, .int .i64 t, .int .i64 n, .string x.u, .int .i64 x.q, .int .i64 x.k] := by rw [← hW0]; exact At.new _ _ _
  have f0 : Fr No W W0 := by rw [← hW0]; exact (Fr.refl No W).alloc _
  have HT := Lib.hid (ht.keep f0 (fun h => h))
  have HF0 := Lib.hid f0
  have HRD := Lib.hid (hrd.keep f0)
  have HI := Lib.hid (hi.keep f0 (fun _ _ h => h))
  have CD := Lib.hid (device14_c W0)
  have CA := Lib.hid (fun (w : World) (f : Fr No W0 w) => awake14_c w ((ht.keep f0 (fun h => h)).keep f (fun h => h)))
  have CREF := Lib.hid (fun (x : Ky) w => ref14_c x w)
  have CRT := Lib.hid (fun w => right14_c x w)
  have CRV := Lib.hid (fun w => refRight14_c z t n w)
  have CSM := Lib.hid (fun (w : World) (f : Fr No W0 w) => small14_c a l.length cap l (fun _ => True) w rfl hlm ((hi.keep f0 (fun _ _ h => h)).keep f (fun _ _ h => h)))
  have HPN : ∀ (b : Nat) (w : World), (binOp .eql 36 (.pointer (some ⟨b, 0, none⟩)) (.pointer none)).run Tryd.prog w = .ok (.bool false) w := fun _ _ => rfl
  have HPM : ∀ (b : Nat) (w : World), (binOp .neq 36 (.pointer (some ⟨b, 0, none⟩)) (.pointer none)).run Tryd.prog w = .ok (.bool true) w := fun _ _ => rfl
  have HPL : ∀ (b : Nat) (w : World), (binOp .eql 39 (.pointer (some ⟨b, 0, none⟩)) (.pointer none)).run Tryd.prog w = .ok (.bool false) w := fun _ _ => rfl
  obtain ⟨rn, hrn⟩ : ∃ k, rl.length = k := ⟨_, rfl⟩
  obtain ⟨ln, hln⟩ : ∃ k, l.length = k := ⟨_, rfl⟩
  have HLN := Lib.hid hln
  have HRN := Lib.hid hrn
  rw [hrn, hln] at K0
  rw [hrn, hln] at hW0
  rw [hln] at CSM hlm hc
  rw [hrn] at hrm' hrc
  unfold maxLen at hrm' hlm hxm hrm hm
  have HC : Hid (∀ w, Fr No W0 w → w.cell? ⟨W.heap.size, 0, none⟩ = some (.slice a ln cap) ∧ w.cell? ⟨W.heap.size, 1, none⟩ = some (.slice ra rn rc) ∧ w.cell? ⟨W.heap.size, 2, none⟩ = some (.int .i64 z) ∧ w.cell? ⟨W.heap.size, 3, none⟩ = some (.int .i64 t) ∧ w.cell? ⟨W.heap.size, 4, none⟩ = some (.int .i64 n) ∧
      w.cell? ⟨W.heap.size, 5, none⟩ = some (.string x.u) ∧ w.cell? ⟨W.heap.size, 6, none⟩ = some (.int .i64 x.q) ∧ w.cell? ⟨W.heap.size, 7, none⟩ = some (.int .i64 x.k)) := Lib.hid fun w f => ⟨(K0.keep f (fun h => h)).cell 0, (K0.keep f (fun h => h)).cell 1, (K0.keep f (fun h => h)).cell 2, (K0.keep f (fun h => h)).cell 3, (K0.keep f (fun h => h)).cell 4, (K0.keep f (fun h => h)).cell 5, (K0.keep f (fun h => h)).cell 6, (K0.keep f (fun h => h)).cell 7⟩
  obtain ⟨c0, c1, c2, c3, c4, c5, c6, c7⟩ := HC.out W0 (Fr.refl _ _)
  rw [hln, hrn]
  have hcase : decide (Small14 l) = false ∨ (decide (Small14 l) = true ∧ decide (100 < (rn : Int)) = true) ∨ (decide (Small14 l) = true ∧ decide (100 < (rn : Int)) = false ∧ decide (200 < (x.u.size : Int)) = true) ∨ (decide (Small14 l) = true ∧ decide (100 < (rn : Int)) = false ∧ decide (200 < (x.u.size : Int)) = false) := by
    cases decide (Small14 l) <;> cases decide (100 < (rn : Int)) <;> cases decide (200 < (x.u.size : Int)) <;> simp
  have HSMI := Lib.hid (show decide (Small14 l) = true → ln ≤ 40 ∧ ∀ x ∈ l, x.val.size ≤ 500 from fun h => ⟨by rw [← hln]; exact (of_decide_eq_true h).2, fun x hx => ((of_decide_eq_true h).1 x hx).2⟩)
  clear K0 f0 ht hi hrd hln hrn wz
  generalize decide (Small14 l) = sm at *
  rcases hcase with h1 | ⟨h1, h2⟩ | ⟨h1, h2, h3⟩ | ⟨h1, h2, h3⟩
  iterate 3
    · subst h1
      go_enter Tryd.func6, Tryd.ntmps6
      go_wp2_with fail
      try rw [hW0]
      refine (show Calls _ _ _ _ _ from CD.out).mono ?_
      rintro e w1 ⟨d, F, rfl, hd, hF, hf1⟩
      obtain ⟨c0, c1, c2, c3, c4, c5, c6, c7⟩ := HC.out w1 hf1
      have HF1 := Lib.hid hf1
      clear hd hF hf1
      go_wp2_with fail
      refine (CSM.out w1 HF1.out).mono ?_
      rintro e w2 ⟨rfl, hf2⟩
      have HF2 := Lib.hid (HF1.out.trans hf2)
      obtain ⟨c0, c1, c2, c3, c4, c5, c6, c7⟩ := HC.out w2 HF2.out
      clear hf2
      go_wp2_with fail
      refine (CA.out _ HF2.out).mono ?_
      rintro e w3 ⟨rfl, hf⟩
      have HF3 := Lib.hid ((HF0.out.trans HF2.out).trans hf)
      clear hf
      go_wp2_with fail
      go_ret
      exact ⟨rfl, HF3.out⟩
  · subst h1
    obtain ⟨hl40, hv500⟩ := HSMI.out rfl
    have HV500 := Lib.hid hv500
    have hr100 : rn ≤ 100 := by
      have := of_decide_eq_false h2
      omega
    obtain ⟨s, hsz, wsz, csz⟩ := szOf_ex n wn
    have HSZ := Lib.hid hsz
    have CSZ := Lib.hid csz
    have HWS := Lib.hid (And.intro wt wsz)
    have HM0 := Lib.hid (And.intro (wf_new (z := 4) (s := 400) (o := 4) (by decide)) (show (newM 4 400 4).done ≤ 0 by decide))
    clear hv500 hsz wsz csz wt wn HSMI
    generalize newM 4 400 4 = m0 at *
    go_enter Tryd.func6, Tryd.ntmps6
    go_wp2_with fail
    try rw [hW0]
    refine (show Calls _ _ _ _ _ from CD.out).mono ?_
    rintro e w1 ⟨d, F, rfl, hd, hF, hf1⟩
    obtain ⟨c0, c1, c2, c3, c4, c5, c6, c7⟩ := HC.out w1 hf1
    have HF1 := Lib.hid hf1
    have HD := Lib.hid hd
    have HFF := Lib.hid hF
    clear hd hF hf1
    go_wp2_with fail
    refine (CSM.out w1 HF1.out).mono ?_
    rintro e w2 ⟨rfl, hf2⟩
    have HF2 := Lib.hid (HF1.out.trans hf2)
    have HD := Lib.hid (HD.out.keep hf2 (fun _ _ h => h))
    obtain ⟨c0, c1, c2, c3, c4, c5, c6, c7⟩ := HC.out w2 HF2.out
    have f3 := (Fr.refl No w2).alloc (.cells #[.int .i64 0] 3)
    have CN := Lib.hid (own_new (W := W0) (HD.out.keep f3 (fun _ _ h => h)) HFF.out (HF2.out.trans f3) (some ⟨w2.heap.size, 0, none⟩) 1 1 [0] rfl (by omega) (nums_one w2 0))
    clear hf2 f3 HD HFF HF1 CD CSM
    go_wp2_with fail
    refine (show Calls _ _ _ _ _ from CN.out).mono ?_
    rintro e w4 ⟨g, v, rfl, ho⟩
    have HO := Lib.hid ho
    obtain ⟨c0, c1, c2, c3, c4, c5, c6, c7⟩ := HC.out w4 ho.fr
    clear ho CN HF2
    go_wp2_with fail
    go_loopw [49] (fun i wr => ∃ (j : Nat) (m : Dev), i = .int .i64 j ∧ j ≤ ln ∧ OwnL W0 No wr g d v [0] m ∧ WF m ∧ m.done ≤ j) (fun i _ => ln - (intOf i).toNat)
    case atStart => exact ⟨0, m0, rfl, Nat.zero_le _, HO.out, HM0.out.1, HM0.out.2⟩
    case round =>
      clear HO HM0 c0 c1 c2 c3 c4 c5 c6 c7
      obtain ⟨j, m, rfl, hj, ho, hwf, hdn⟩ := hrel
      have HO := Lib.hid ho
      have HWF := Lib.hid hwf
      have HDN := Lib.hid hdn
      obtain ⟨c0, c1, c2, c3, c4, c5, c6, c7⟩ := HC.out wr ho.fr
      clear ho hwf hdn
      by_cases h1 : j < ln
      · have d1 : decide ((j : Int) < (ln : Int)) = true := by rw [decide_eq_true_eq]; omega
        have hjl : j < l.length := by rw [HLN.out]; exact h1
        obtain ⟨b, o, _, rfl, hcell⟩ := HI.out (by omega)
        have hy := (hcell j hjl).keep HO.out.fr (fun h => h)
        obtain ⟨y, hye⟩ : ∃ y, l.getD j ent0 = y := ⟨_, rfl⟩
        have hyv := HV500.out _ (getD_memE l j hjl)
        rw [hye] at hy hyv
        obtain ⟨y0, y1, y2, y3⟩ := hy
        obtain ⟨w5, hw5⟩ : ∃ w, wr.alloc (.cells #[.string y.u, .int .i64 y.q, .int .i64 y.k, .string y.val] 45) = w := ⟨_, rfl⟩
        have A5 : At w5 wr.heap.size 45 #[.string y.u, .int .i64 y.q, .int .i64 y.k, .string y.val] := by rw [← hw5]; exact At.new _ _ _
        have f5 : Fr No wr w5 := by rw [← hw5]; exact (Fr.refl No wr).alloc _
        have b0 := A5.cell 0
        have b1 := A5.cell 1
        have b2 := A5.cell 2
        have b3 := A5.cell 3
        simp at b0 b1 b2 b3
        have HO5 := HO.out.no f5
        clear A5 f5 hcell hjl hye
        by_cases hrt : (eKy y).rt
        · have CP := Lib.hid (HO5.putY HWF.out (by have := HDN.out; omega) (by simp) HT.out (eKy y) y.val hrt (by omega))
          have HW2 := Lib.hid (wf_appDv HWF.out [0] (recB (eKy y) y.val))
          have HD2 := Lib.hid (Nat.le_trans (done_appDv m [0] (recB (eKy y) y.val)) (Nat.succ_le_succ HDN.out))
          generalize appDv m [0] (recB (eKy y) y.val) = m2 at *
          generalize putT m [0] (recB (eKy y) y.val) = P at *
          unfold kyV eKy at CP
          simp only at CP
          clear hrt HO5 HO
          go_wp2_with fail
          try rw [hw5]
          try go_wp2_with fail
          refine (show Calls _ _ _ _ _ from CP.out).mono ?_
          rintro e w6 ⟨rfl, ho, _⟩
          have HO := Lib.hid ho
          clear ho CP
          go_wp2_with fail
          go_roundw
          case rel => exact ⟨j + 1, m2, by simp, by omega, HO.out, HW2.out, HD2.out⟩
          case measure => simp [intOf]; omega
        · have CP := Lib.hid (HO5.putN (eKy y) y.val hrt)
          unfold kyV eKy at CP
          simp only at CP
          clear hrt HO5 HO
          go_wp2_with fail
          try rw [hw5]
          try go_wp2_with fail
          refine (show Calls _ _ _ _ _ from CP.out).mono ?_
          rintro e w6 ⟨rfl, ho, _⟩
          have HO := Lib.hid ho
          clear ho CP
          go_wp2_with fail
          go_roundw
          case rel => exact ⟨j + 1, m, by simp, by omega, HO.out, HWF.out, Nat.le_succ_of_le HDN.out⟩
          case measure => simp [intOf]; omega
      · obtain rfl : ln = j := by omega
        have d1 : decide ((ln : Int) < (ln : Int)) = false := by simp
        have CAP := Lib.hid (HO.out.dapp HWF.out (by have := HDN.out; omega) 0 ra rn rc rl HRN.out (by omega) hrc (by unfold maxLen; omega) HRD.out)
        have HW2 := Lib.hid (wf_app HWF.out 0 rl)
        generalize appM m 0 rl = m2 at *
        generalize cmdR m (appErr m 0 rl) = r2 at *
        clear h1 HO HWF HDN
        go_wp2_with fail
        refine (show Calls _ _ _ _ _ from CAP.out).mono ?_
        rintro e w5 ⟨rfl, ho, _⟩
        obtain ⟨c0, c1, c2, c3, c4, c5, c6, c7⟩ := HC.out w5 ho.fr
        obtain ⟨⟨bl, be⟩, hR⟩ : ∃ r, raR m2 z t s = r := ⟨_, rfl⟩
        have HGB := Lib.hid (get_beside HSZ.out x hR)
        have HBL := Lib.hid (show bl.length ≤ 65536 by have := raR_len HW2.out z t s; rw [hR] at this; exact this)
        have CG := Lib.hid (ho.get HW2.out HT.out z t n x)
        have CRA := Lib.hid (fun (w : World) (ho : OwnL W0 No w g d v [0] m2) => ho.readAt HW2.out HT.out z t n s HWS.out.1 HWS.out.2 CSZ.out)
        rw [hR] at CRA
        generalize vgetR m2 z t n x = G at *
        unfold kyV ptV at CG
        clear CAP ho hR
        go_wp2_with fail
        refine (show Calls _ _ _ _ _ from CG.out).mono ?_
        rintro e w6 ⟨rfl, ho, _⟩
        obtain ⟨c0, c1, c2, c3, c4, c5, c6, c7⟩ := HC.out w6 ho.fr
        have CR1 := Lib.hid (CRA.out w6 ho)
        clear ho CG CRA
        go_wp2_with fail
        refine (show Calls _ _ _ _ _ from CR1.out).mono ?_
        rintro e w7 ⟨ba, bc, rfl, bin, ho, _⟩
        obtain ⟨c0, c1, c2, c3, c4, c5, c6, c7⟩ := HC.out w7 ho.fr
        have HF7 := Lib.hid ho.fr
        have HBI := Lib.hid bin.rd
        obtain ⟨bn, hbn⟩ : ∃ n, bl.length = n := ⟨_, rfl⟩
        have HBN := Lib.hid hbn
        simp only [hbn]
        clear ho bin CR1 hbn
        obtain ⟨g1, g2, g3⟩ := HGB.out
        have G3 := Lib.hid g3
        have G2 := Lib.hid g2
        have G1 := Lib.hid g1
        clear g1 g2 g3 HGB
        by_cases hr : RtV z t n
        · rw [decide_eq_true hr] at CRV
          by_cases hbe : be = 0
          · subst hbe
            have hg := G3.out hr rfl
            rcases getRec_two bl x with ⟨u, hu, hxr, hrb⟩ | ⟨hu, hno⟩
            · rw [hu] at hg
              subst hg
              rw [decide_eq_true hxr] at CRT
              have hus : u.size ≤ 65536 := by
                have h1 := HBL.out
                rw [← hrb] at h1
                unfold recB at h1
                rw [List.length_append, textB_length (bs u), bs_length] at h1
                omega
              have CRC := Lib.hid (fun w => refRecord_c x u w hxr (by omega))
              rw [hrb] at CRC
              clear G1 G2 G3 hr hu hxr hrb
              unfold kyV at CREF CRT CRC
              go_wp2_with fail
              refine (CRV.out _).mono ?_
              rintro e w' ⟨rfl, rfl⟩
              go_wp2_with fail
              refine (CREF.out x _).mono ?_
              rintro e w8 ⟨rfl, hf⟩
              have HF8 := Lib.hid (HF7.out.trans hf)
              have HBI := Lib.hid (HBI.out.keep hf)
              obtain ⟨c0, c1, c2, c3, c4, c5, c6, c7⟩ := HC.out w8 HF8.out
              clear hf
              go_wp2_with fail
              refine (CRT.out _).mono ?_
              rintro e w9 ⟨rfl, hf⟩
              have HF9 := Lib.hid (HF8.out.trans hf)
              have HBI := Lib.hid (HBI.out.keep hf)
              obtain ⟨c0, c1, c2, c3, c4, c5, c6, c7⟩ := HC.out w9 HF9.out
              clear hf
              go_wp2_with fail
              refine (CREF.out x _).mono ?_
              rintro e w10 ⟨rfl, hf⟩
              have HF10 := Lib.hid (HF9.out.trans hf)
              have HBI := Lib.hid (HBI.out.keep hf)
              clear hf
              go_wp2_with fail
              refine (CRC.out _).mono ?_
              rintro e w11 ⟨rv, rfl, rrow, hf⟩
              obtain ⟨r1, r2, rfl, _, _, rin⟩ := rrow.form
              have HF11 := Lib.hid (HF10.out.trans hf)
              have CSA := Lib.hid (same_yes HBN.out HBN.out rin.rd (HBI.out.keep hf) rfl (cap := r2) (cap' := bc))
              rw [HBN.out]
              clear hf rrow rin HBI
              go_wp2_with fail
              refine (show Calls _ _ _ _ _ from CSA.out).mono ?_
              rintro e w' ⟨rfl, rfl⟩
              go_wp2_with fail
              refine (CA.out _ HF11.out).mono ?_
              rintro e w12 ⟨rfl, hf⟩
              have HF12 := Lib.hid ((HF0.out.trans HF11.out).trans hf)
              clear hf
              go_wp2_with fail
              go_ret
              exact ⟨rfl, HF12.out⟩
            · rw [hu] at hg
              subst hg
              have HNO := Lib.hid hno
              clear G1 G2 G3 hr hu hno
              unfold kyV at CREF CRT
              have CREFX := Lib.hid (CREF.out x)
              have CREFA := Lib.hid CREF.out
              go_wp2_with fail
              refine (CRV.out _).mono ?_
              rintro e w' ⟨rfl, rfl⟩
              go_wp2_with fail
              refine (CREFX.out _).mono ?_
              rintro e w8 ⟨rfl, hf⟩
              have HF8 := Lib.hid (HF7.out.trans hf)
              have HBI := Lib.hid (HBI.out.keep hf)
              clear hf CREFX
              go_wp2_with fail
              refine (CRT.out _).mono ?_
              rintro e w9 ⟨rfl, hf⟩
              have HF9 := Lib.hid (HF8.out.trans hf)
              have HBI := Lib.hid (HBI.out.keep hf)
              obtain ⟨c0, c1, c2, c3, c4, c5, c6, c7⟩ := HC.out w9 HF9.out
              clear hf HF8 HF7
              have hdx : (decide x.rt = true ∧ x.rt) ∨ decide x.rt = false := by
                by_cases h : x.rt
                · exact .inl ⟨decide_eq_true h, h⟩
                · exact .inr (decide_eq_false h)
              have HDX := Lib.hid hdx
              clear hdx
              generalize decide x.rt = dx at *
              go_wp2_with fail
              go_loopw [128] (fun i wr => ∃ j : Nat, i = .int .i64 j ∧ j ≤ ln ∧ Fr No w9 wr) (fun i _ => ln - (intOf i).toNat)
              case atStart => exact ⟨0, rfl, Nat.zero_le _, Fr.refl _ _⟩
              case round =>
                clear c0 c1 c2 c3 c4 c5 c6 c7
                obtain ⟨j, rfl, hj, hfr⟩ := hrel
                have HFR := Lib.hid hfr
                have HFW := Lib.hid (HF9.out.trans hfr)
                obtain ⟨c0, c1, c2, c3, c4, c5, c6, c7⟩ := HC.out wr (HF9.out.trans hfr)
                have HBI := Lib.hid (HBI.out.keep hfr)
                clear hfr
                by_cases h1 : j < ln
                · have d1 : decide ((j : Int) < (ln : Int)) = true := by rw [decide_eq_true_eq]; omega
                  have hjl : j < l.length := by rw [HLN.out]; exact h1
                  obtain ⟨b, o, _, rfl, hcell⟩ := HI.out (by omega)
                  have hy := (hcell j hjl).keep HFW.out (fun h => h)
                  obtain ⟨y, hye⟩ : ∃ y, l.getD j ent0 = y := ⟨_, rfl⟩
                  have hyv := HV500.out _ (getD_memE l j hjl)
                  rw [hye] at hy hyv
                  obtain ⟨y0, y1, y2, y3⟩ := hy
                  obtain ⟨w5, hw5⟩ : ∃ w, wr.alloc (.cells #[.string y.u, .int .i64 y.q, .int .i64 y.k, .string y.val] 45) = w := ⟨_, rfl⟩
                  have A5 : At w5 wr.heap.size 45 #[.string y.u, .int .i64 y.q, .int .i64 y.k, .string y.val] := by rw [← hw5]; exact At.new _ _ _
                  have f5 : Fr No wr w5 := by rw [← hw5]; exact (Fr.refl No wr).alloc _
                  have b0 := A5.cell 0
                  have b1 := A5.cell 1
                  have b2 := A5.cell 2
                  have b3 := A5.cell 3
                  simp at b0 b1 b2 b3
                  obtain ⟨c0, c1, c2, c3, c4, c5, c6, c7⟩ := HC.out w5 (HFW.out.trans f5)
                  have HF5 := Lib.hid (HFR.out.trans f5)
                  have HBI5 := Lib.hid (HBI.out.keep f5)
                  clear A5 f5 hcell hjl hye
                  rcases HDX.out with ⟨rfl, hxr⟩ | rfl
                  · by_cases hyx : eKy y = x
                    · have hne := HNO.out y.val (by omega) hxr
                      have CRC := Lib.hid (fun w => refRecord_c x y.val w hxr (by omega))
                      have hde : (recB x y.val == bl) = false := by rw [beq_eq_false_iff_ne]; exact hne
                      obtain ⟨qn, hqn⟩ : ∃ n, (recB x y.val).length = n := ⟨_, rfl⟩
                      have HQN := Lib.hid hqn
                      have CSA := Lib.hid (fun (w : World) (r1 : Option Addr) (r2 : Nat) (h1 : Rd w r1 (recB x y.val)) (h2 : Rd w ba bl) => same_c r1 ba qn r2 bn bc (recB x y.val) bl w hqn HBN.out h1 h2)
                      rw [hde] at CSA
                      have hk := keyEql (eKy y) x
                      rw [decide_eq_true hyx] at hk
                      unfold kyV at CRC
                      unfold eKy at hk hyx
                      obtain ⟨xu, xq, xk⟩ := x
                      simp only [Ky.mk.injEq] at hyx
                      obtain ⟨rfl, rfl, rfl⟩ := hyx
                      simp only at hk CRC c5 c6 c7
                      clear hxr hne hde hqn
                      generalize recB _ y.val = RB at *
                      go_wp2_with fail
                      try rw [hw5]
                      try go_wp2_with fail
                      go_region_held3 (fun w' => w'.cell? ⟨wr.heap.size, 0, none⟩ = some (.string y.u) ∧ w'.cell? ⟨wr.heap.size, 1, none⟩ = some (.int .i64 y.q) ∧ w'.cell? ⟨wr.heap.size, 2, none⟩ = some (.int .i64 y.k) ∧ w'.cell? ⟨wr.heap.size, 3, none⟩ = some (.string y.val) ∧ w'.cell? ⟨W.heap.size, 5, none⟩ = some (.string y.u) ∧ w'.cell? ⟨W.heap.size, 6, none⟩ = some (.int .i64 y.q) ∧ w'.cell? ⟨W.heap.size, 7, none⟩ = some (.int .i64 y.k)) (first | assumption | go_keep)
                        (first
                          | (go_at_call 19; refine (CREFA.out ⟨y.u, y.q, y.k⟩ _).mono ?_; rintro e w6 ⟨rfl, hf⟩
                             have b0 := hf.cell (p := ⟨wr.heap.size, 0, none⟩) (v := .string y.u) b0 (fun h => h)
                             have b1 := hf.cell (p := ⟨wr.heap.size, 1, none⟩) (v := .int .i64 y.q) b1 (fun h => h)
                             have b2 := hf.cell (p := ⟨wr.heap.size, 2, none⟩) (v := .int .i64 y.k) b2 (fun h => h)
                             have b3 := hf.cell (p := ⟨wr.heap.size, 3, none⟩) (v := .string y.val) b3 (fun h => h)
                             have c5 := hf.cell (p := ⟨W.heap.size, 5, none⟩) (v := .string y.u) c5 (fun h => h)
                             have c6 := hf.cell (p := ⟨W.heap.size, 6, none⟩) (v := .int .i64 y.q) c6 (fun h => h)
                             have c7 := hf.cell (p := ⟨W.heap.size, 7, none⟩) (v := .int .i64 y.k) c7 (fun h => h)
                             have HF6 := Lib.hid ((Fr.refl No w5).drew.trans hf)
                             clear hf)
                          | (go_at_call 22; refine (CRC.out _).mono ?_; rintro e w7 ⟨rv, rfl, rrow, hf⟩
                             obtain ⟨r1, r2, rfl, _, _, rin⟩ := rrow.form
                             rw [HQN.out]
                             have b0 := hf.cell (p := ⟨wr.heap.size, 0, none⟩) (v := .string y.u) b0 (fun h => h)
                             have b1 := hf.cell (p := ⟨wr.heap.size, 1, none⟩) (v := .int .i64 y.q) b1 (fun h => h)
                             have b2 := hf.cell (p := ⟨wr.heap.size, 2, none⟩) (v := .int .i64 y.k) b2 (fun h => h)
                             have b3 := hf.cell (p := ⟨wr.heap.size, 3, none⟩) (v := .string y.val) b3 (fun h => h)
                             have c5 := hf.cell (p := ⟨W.heap.size, 5, none⟩) (v := .string y.u) c5 (fun h => h)
                             have c6 := hf.cell (p := ⟨W.heap.size, 6, none⟩) (v := .int .i64 y.q) c6 (fun h => h)
                             have c7 := hf.cell (p := ⟨W.heap.size, 7, none⟩) (v := .int .i64 y.k) c7 (fun h => h)
                             have HF7 := Lib.hid (HF6.out.trans hf)
                             have CS7 := Lib.hid (CSA.out w7 r1 r2 rin.rd (HBI5.out.keep HF7.out))
                             clear hf rrow rin)
                          | (go_at_call 31; refine (show Calls _ _ _ _ _ from CS7.out).mono ?_; rintro e w8 ⟨rfl, rfl⟩))
                      go_wp2_with fail
                      go_roundw
                      case rel => exact ⟨j + 1, by simp, by omega, HF5.out.trans HF7.out⟩
                      case measure => simp [intOf]; omega
                    · have hk := keyEql (eKy y) x
                      rw [decide_eq_false hyx] at hk
                      unfold eKy at hk
                      clear hyx hxr
                      go_wp2_with fail
                      try rw [hw5]
                      try go_wp2_with fail
                      go_quiet (fail)
                      go_wp2_with fail
                      go_roundw
                      case rel => exact ⟨j + 1, by simp, by omega, HF5.out.drewN _⟩
                      case measure => simp [intOf]; omega
                  · go_wp2_with fail
                    try rw [hw5]
                    try go_wp2_with fail
                    go_quiet (fail)
                    go_wp2_with fail
                    go_roundw
                    case rel => exact ⟨j + 1, by simp, by omega, HF5.out.drewN _⟩
                    case measure => simp [intOf]; omega
                · obtain rfl : ln = j := by omega
                  have d1 : decide ((ln : Int) < (ln : Int)) = false := by simp
                  go_wp2_with fail
                  refine (CA.out _ HFW.out).mono ?_
                  rintro e w12 ⟨rfl, hf⟩
                  have HF12 := Lib.hid ((HF0.out.trans HFW.out).trans hf)
                  clear hf
                  go_wp2_with fail
                  go_ret
                  exact ⟨rfl, HF12.out⟩
          · have hg := G2.out hr hbe
            subst hg
            have e1 : (be != 0) = true := by rw [bne_iff_ne]; exact hbe
            have e2 : (be == be) = true := beq_self_eq_true be
            clear G1 G2 G3 hr hbe
            go_wp2_with fail
            refine (CRV.out _).mono ?_
            rintro e w' ⟨rfl, rfl⟩
            go_wp2_with fail
            refine (CA.out _ HF7.out).mono ?_
            rintro e w8 ⟨rfl, hf⟩
            have HF8 := Lib.hid ((HF0.out.trans HF7.out).trans hf)
            clear hf
            go_wp2_with fail
            go_ret
            exact ⟨rfl, HF8.out⟩
        · rw [decide_eq_false hr] at CRV
          have hg := G1.out hr
          subst hg
          clear G1 G2 G3 hr
          go_wp2_with fail
          refine (CRV.out _).mono ?_
          rintro e w' ⟨rfl, rfl⟩
          go_wp2_with fail
          refine (CA.out _ HF7.out).mono ?_
          rintro e w8 ⟨rfl, hf⟩
          have HF8 := Lib.hid ((HF0.out.trans HF7.out).trans hf)
          clear hf
          go_wp2_with fail
          go_ret
          exact ⟨rfl, HF8.out⟩
end Go.Proofs.YtihahckjcedceaaDoor
