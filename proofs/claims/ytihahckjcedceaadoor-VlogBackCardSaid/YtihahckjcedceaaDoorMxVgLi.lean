/-
  The walk of the statement VlogLists.
-/
import Derived.Test.YtihahckjcedceaaDoorMxVgY
import Derived.BigQuiet
import Derived.Deep.RegionHeld3
import Derived.Deep.QuietTactic
namespace Go.Proofs.YtihahckjcedceaaDoor
set_option linter.unusedVariables false
set_option linter.unusedSimpArgs false
open Go.RowKit

theorem vlNeq (x y : Vl) (h : x = y) (w : World) : (binOp .neq 61 (.agg #[.string x.x.u, .int .i64 x.x.q, .int .i64 x.x.k, .string x.s, .int .i64 x.z, .int .i64 x.t, .int .i64 x.n]) (.agg #[.string y.x.u, .int .i64 y.x.q, .int .i64 y.x.k, .string y.s, .int .i64 y.z, .int .i64 y.t, .int .i64 y.n])).run Tryd.prog w = .ok (.bool false) w := by
  subst h
  go_simp
theorem keyNeq (x y : Ky) (h : x = y) (w : World) : (binOp .neq 43 (.agg #[.string x.u, .int .i64 x.q, .int .i64 x.k]) (.agg #[.string y.u, .int .i64 y.q, .int .i64 y.k])).run Tryd.prog w = .ok (.bool false) w := by
  subst h
  go_simp
/-- Bytes of the call's own, behind one that is constant. -/
theorem one_more (w : World) (a : Option Addr) (n c : Nat) (l : List UInt8) (hl : l.length = n) (hn : n ≤ 1000) (hr : Rd w a l) :
    ∃ ra rc w', (Builtin.append_ #[51, 51] 51 #[.slice (some ⟨w.heap.size, 0, none⟩) 1 1, .slice a n c]).run Tryd.prog (w.alloc (.cells #[.int .u8 120] 5)) = .ok (.slice ra (n + 1) rc) w' ∧ Rd w' ra (120 :: l) ∧ Fr No w w' := by
  have f1 : Fr No w (w.alloc (.cells #[.int .u8 120] 5)) := (Fr.refl No w).alloc _
  have hrow : Row (w.alloc (.cells #[.int .u8 120] 5)) (Gr No w (w.alloc (.cells #[.int .u8 120] 5))) (.slice (some ⟨w.heap.size, 0, none⟩) 1 1) [120] := row_new w [120] (by simp [maxLen])
  obtain ⟨v', w', h1, h2, h3⟩ := hrow.more f1 a n c l hl (hr.keep f1) (by simp; omega)
  obtain ⟨ra, rc, rfl, g1, g2, g3⟩ := h2.form
  have e : ([120] ++ l : List UInt8).length = n + 1 := by simp [hl]
  rw [e] at h1
  exact ⟨ra, rc, w', h1, g3.rd, h3⟩
set_option maxRecDepth 100000 in
set_option maxHeartbeats 12800000 in
theorem vlogLists_walk (W : World) (ht : Tab W) (a : Option Addr) (cap : Nat) (l : List Ent) (hc : l.length ≤ cap) (hm : cap ≤ maxLen) (hi : Ents W (fun _ => True) a l) (wf : ∀ x ∈ l, EntWf x)
    (qa : Option Addr) (qc : Nat) (q : List Tx) (hqc : q.length ≤ qc) (hqm : qc ≤ maxLen) (hq : Texts W qa q) (ra : Option Addr) (rn rc : Nat) (rl : List UInt8) (hrn : rl.length = rn) (hrc : rn ≤ rc) (hrm : rc ≤ maxLen) (hrd : Rd W ra rl) :
    Calls Tryd.prog 7 #[.slice a l.length cap, .slice qa q.length qc, .slice ra rn rc] W fun e W' => e = .returned (.bool true) ∧ Below W.heap.size W W' := by
  refine Calls.mono (R := PlainRet (.bool true) W) ?_ fun e w' h => h.below
  have hlm := Nat.le_trans hc hm
  have hqm' := Nat.le_trans hqc hqm
  have hrm' := Nat.le_trans hrc hrm
  have HT := Lib.hid ht
  have HRD := Lib.hid hrd
  have HRN := Lib.hid hrn
  have HI := Lib.hid hi
  have HQ := Lib.hid hq
  have CD := Lib.hid (device14_c W)
  have CA := Lib.hid (fun (w : World) (f : Fr No W w) => awake14_c w (ht.keep f (fun h => h)))
  have CSM := Lib.hid (fun (w : World) (f : Fr No W w) => small14_c a l.length cap l (fun _ => True) w rfl hlm (hi.keep f (fun _ _ h => h)))
  have HPN : ∀ (b : Nat) (w : World), (binOp .eql 36 (.pointer (some ⟨b, 0, none⟩)) (.pointer none)).run Tryd.prog w = .ok (.bool false) w := fun _ _ => rfl
  have HPM : ∀ (b : Nat) (w : World), (binOp .neq 36 (.pointer (some ⟨b, 0, none⟩)) (.pointer none)).run Tryd.prog w = .ok (.bool true) w := fun _ _ => rfl
  have HPL : ∀ (b : Nat) (w : World), (binOp .eql 39 (.pointer (some ⟨b, 0, none⟩)) (.pointer none)).run Tryd.prog w = .ok (.bool false) w := fun _ _ => rfl
  obtain ⟨ln, hln⟩ : ∃ k, l.length = k := ⟨_, rfl⟩
  obtain ⟨qn, hqn⟩ : ∃ k, q.length = k := ⟨_, rfl⟩
  have HLN := Lib.hid hln
  have HQN := Lib.hid hqn
  rw [hln] at CSM hlm hc
  rw [hqn] at hqc hqm'
  rw [hln, hqn]
  unfold maxLen at hrm' hqm' hlm hrm hm hqm
  have hcase : decide (Small14 l) = false ∨ (decide (Small14 l) = true ∧ decide (30 < (qn : Int)) = true) ∨ (decide (Small14 l) = true ∧ decide (30 < (qn : Int)) = false ∧ decide (100 < (rn : Int)) = true) ∨ (decide (Small14 l) = true ∧ decide (30 < (qn : Int)) = false ∧ decide (100 < (rn : Int)) = false) := by
    cases decide (Small14 l) <;> cases decide (30 < (qn : Int)) <;> cases decide (100 < (rn : Int)) <;> simp
  have HSMI := Lib.hid (show decide (Small14 l) = true → ln ≤ 40 ∧ ∀ x ∈ l, x.val.size ≤ 500 from fun h => ⟨by rw [← hln]; exact (of_decide_eq_true h).2, fun x hx => ((of_decide_eq_true h).1 x hx).2⟩)
  clear ht hi hrd wf hln hrn hqn hq
  generalize decide (Small14 l) = sm at *
  rcases hcase with h1 | ⟨h1, h2⟩ | ⟨h1, h2, h3⟩ | ⟨h1, h2, h3⟩
  iterate 3
    · subst h1
      go_enter Tryd.func7, Tryd.ntmps7
      go_wp2_with fail
      refine (show Calls _ _ _ _ _ from CD.out).mono ?_
      rintro e w1 ⟨d, F, rfl, hd, hF, hf1⟩
      have HF1 := Lib.hid hf1
      clear hd hF hf1
      go_wp2_with fail
      refine (CSM.out w1 HF1.out).mono ?_
      rintro e w2 ⟨rfl, hf2⟩
      have HF2 := Lib.hid (HF1.out.trans hf2)
      clear hf2
      go_wp2_with fail
      refine (CA.out _ HF2.out).mono ?_
      rintro e w3 ⟨rfl, hf⟩
      have HF3 := Lib.hid (HF2.out.trans hf)
      clear hf
      go_wp2_with fail
      go_ret
      exact ⟨rfl, HF3.out⟩
  · subst h1
    obtain ⟨hl40, hv500⟩ := HSMI.out rfl
    have HV500 := Lib.hid hv500
    have hq30 : qn ≤ 30 := by
      have := of_decide_eq_false h2
      omega
    have hr100 : rn ≤ 100 := by
      have := of_decide_eq_false h3
      omega
    have HZ0 := Lib.hid (ZnI.start 2)
    have HD0 : Hid ((newM 4 400 4).done ≤ 2 * 0) := Lib.hid (by decide)
    clear hv500 HSMI
    generalize newM 4 400 4 = m0 at *
    go_enter Tryd.func7, Tryd.ntmps7
    go_wp2_with fail
    refine (show Calls _ _ _ _ _ from CD.out).mono ?_
    rintro e w1 ⟨d, F, rfl, hd, hF, hf1⟩
    have HF1 := Lib.hid hf1
    have HD := Lib.hid hd
    have HFF := Lib.hid hF
    clear hd hF hf1
    go_wp2_with fail
    refine (CSM.out w1 HF1.out).mono ?_
    rintro e w2 ⟨rfl, hf2⟩
    have HF2 := Lib.hid (HF1.out.trans hf2)
    have HD := Lib.hid (HD.out.keep hf2 (fun _ _ h => h))
    have f3 := (Fr.refl No w2).alloc (.cells #[.int .i64 2] 3)
    have CN := Lib.hid (own_new (W := W) (HD.out.keep f3 (fun _ _ h => h)) HFF.out (HF2.out.trans f3) (some ⟨w2.heap.size, 0, none⟩) 1 1 [2] rfl (by omega) (nums_one w2 2))
    clear hf2 f3 HD HFF HF1 CD CSM
    go_wp2_with fail
    refine (show Calls _ _ _ _ _ from CN.out).mono ?_
    rintro e w4 ⟨g, v, rfl, ho⟩
    have HL4 := Lib.hid (LoI.start ho)
    clear ho CN HF2
    go_wp2_with fail
    go_loopw [9, 52] (fun u i wr => ∃ (j : Nat) (K : Nat → Prop) (m : Dev) (rs : List (List UInt8)) (us : List Ent), i = .int .i64 j ∧ j ≤ ln ∧ LoI W K wr g d v [2] m u us ∧ ZnI m 2 rs us ∧ m.done ≤ 2 * j ∧ us.length ≤ j) (fun _ i _ => ln - (intOf i).toNat)
    case atStart => exact ⟨0, No, m0, [], [], rfl, Nat.zero_le _, HL4.out, HZ0.out, HD0.out, Nat.zero_le _⟩
    case round =>
      clear HL4 HZ0 HD0
      obtain ⟨j, K, m, rs, us, rfl, hj, hli, hzn, hdn, hul⟩ := hrel
      have HLI := Lib.hid hli
      have HZ := Lib.hid hzn
      have HDN := Lib.hid hdn
      have HUL := Lib.hid hul
      obtain ⟨ua, uc, rfl, u1, u2, _⟩ := hli.row.ents
      obtain ⟨un, hun⟩ : ∃ n, us.length = n := ⟨_, rfl⟩
      have HUN := Lib.hid hun
      rw [hun] at HLI HUL u1
      rw [hun]
      clear hli hzn hdn hul hun u2
      by_cases h1 : j < ln
      · have d1 : decide ((j : Int) < (ln : Int)) = true := by rw [decide_eq_true_eq]; omega
        have hjl : j < l.length := by rw [HLN.out]; exact h1
        obtain ⟨b, o, _, rfl, hcell⟩ := HI.out (by omega)
        have hy := (hcell j hjl).keep HLI.out.ow.fr (fun h => h)
        obtain ⟨y, hye⟩ : ∃ y, l.getD j ent0 = y := ⟨_, rfl⟩
        have hyv := HV500.out _ (getD_memE l j hjl)
        rw [hye] at hy hyv
        obtain ⟨y0, y1, y2, y3⟩ := hy
        obtain ⟨w5, hw5⟩ : ∃ w, wr.alloc (.cells #[.string y.u, .int .i64 y.q, .int .i64 y.k, .string y.val] 45) = w := ⟨_, rfl⟩
        have A5 : At w5 wr.heap.size 45 #[.string y.u, .int .i64 y.q, .int .i64 y.k, .string y.val] := by rw [← hw5]; exact At.new _ _ _
        have f5 : Fr No wr w5 := by rw [← hw5]; exact (Fr.refl No wr).alloc _
        have HL5 := Lib.hid (HLI.out.new f5)
        have HKB : Hid (Gr K wr w5 wr.heap.size) := Lib.hid (.inr ⟨Nat.le_refl _, by rw [← hw5]; simp⟩)
        have b0 := A5.cell 0
        have b1 := A5.cell 1
        have b2 := A5.cell 2
        have b3 := A5.cell 3
        simp at b0 b1 b2 b3
        have HA5 := Lib.hid A5
        generalize Gr K wr w5 = K5 at *
        have HBL := Lib.hid hcell
        clear A5 f5 hcell hjl hye HLI
        by_cases hq1 : j < qn
        · have dq : decide ((j : Int) < (qn : Int)) = true := by rw [decide_eq_true_eq]; omega
          obtain ⟨qb, qo, rfl, hqx⟩ := HQ.out (by rw [HQN.out]; omega)
          obtain ⟨p, hp⟩ : ∃ p, q[j]? = some p := ⟨_, List.getElem?_eq_getElem (by rw [HQN.out]; exact hq1)⟩
          have qx := (hqx j p hp).keep HL5.out.ow.fr
          have qc0 := qx.c0
          have hpm := Nat.le_trans qx.le qx.cm
          unfold maxLen at hpm
          have HPR := Lib.hid qx.rd
          obtain ⟨pa, pc, pb⟩ := p
          simp only at qc0 hpm HPR
          obtain ⟨pn, hpn⟩ : ∃ n, pb.length = n := ⟨_, rfl⟩
          have HPN' := Lib.hid hpn
          rw [hpn] at qc0 hpm
          have HQX := Lib.hid hqx
          clear qx hqx hpn hp
          by_cases h50 : pn ≤ 50
          · have d50 : decide ((pn : Int) ≤ 50) = true := by rw [decide_eq_true_eq]; omega
            obtain ⟨za, zc, w7, hrun, hzrd, hzf⟩ := one_more w5 pa pn pc pb HPN'.out (by omega) HPR.out
            have HRUNZ := Lib.hid hrun
            have HL7 := Lib.hid (HL5.out.no hzf)
            have b0 := hzf.cell b0 (fun h => h)
            have b1 := hzf.cell b1 (fun h => h)
            have b2 := hzf.cell b2 (fun h => h)
            have b3 := hzf.cell b3 (fun h => h)
            have CAP := Lib.hid (HL7.out.ow.append HZ.out.wf (by have := HDN.out; omega) (by simp) HT.out za (pn + 1) zc (120 :: pb) (by simp [HPN'.out]) (by omega) hzrd)
            obtain ⟨rsj, hzj⟩ := HZ.out.junk (by decide) (by decide) pb (by rw [HPN'.out]; exact h50)
            have HZP := Lib.hid hzj
            have HDP : Hid ((appDv m [2] (120 :: pb)).done ≤ 2 * j + 1) := Lib.hid (Nat.le_trans (done_appDv m [2] (120 :: pb)) (Nat.succ_le_succ HDN.out))
            generalize appDv m [2] (120 :: pb) = mj at *
            clear hrun hzrd hzf hzj HDN HZ HL5 rs
            have f6 : Fr No w5 (w5.alloc (.cells #[.int .u8 120] 5)) := (Fr.refl No w5).alloc _
            have qc1 := f6.cell qc0 (fun h => h)
            clear f6
            go_wp2_with (at_builtin; refine wpList_append_run rfl _ _ 51 rfl rfl rfl HRUNZ.out ?_)
            refine (show Calls _ _ _ _ _ from CAP.out).mono ?_
            rintro e w7b ⟨⟨t1, t2, t3, rfl⟩, ho, hf7⟩
            have HLP := Lib.hid (HL7.out.call ho hf7)
            have b0 := hf7.cell b0 (fun hn => hn HKB.out)
            have b1 := hf7.cell b1 (fun hn => hn HKB.out)
            have b2 := hf7.cell b2 (fun hn => hn HKB.out)
            have b3 := hf7.cell b3 (fun hn => hn HKB.out)

            clear ho hf7 CAP HL7
            by_cases hrt : (eKy y).rt
            · have CP := Lib.hid (HLP.out.ow.putY HZP.out.wf (by have := HDP.out; omega) (by simp) HT.out (eKy y) y.val hrt (by omega))
              have HPUT := Lib.hid (HZP.out.put (by decide) (by decide) y hrt (by omega))
              have HD2 := Lib.hid (Nat.le_trans (done_appDv mj [2] (recB (eKy y) y.val)) (Nat.succ_le_succ HDP.out))
              generalize appDv mj [2] (recB (eKy y) y.val) = m2 at *
              obtain ⟨⟨p1, p2, p3, p4⟩, hP⟩ : ∃ p, putT mj [2] (recB (eKy y) y.val) = p := ⟨_, rfl⟩
              rw [hP] at CP HPUT
              unfold kyV eKy ptV at CP
              simp only at CP
              clear hP
              go_wp2_with fail
              refine (show Calls _ _ _ _ _ from CP.out).mono ?_
              rintro e w8 ⟨rfl, ho, hf8⟩
              have HL8 := Lib.hid (HLP.out.call ho hf8)
              have b0 := hf8.cell b0 (fun hn => hn HKB.out)
              have b1 := hf8.cell b1 (fun hn => hn HKB.out)
              have b2 := hf8.cell b2 (fun hn => hn HKB.out)
              have b3 := hf8.cell b3 (fun hn => hn HKB.out)
              obtain ⟨w9, hw9⟩ : ∃ w, w8.alloc (.cells #[.int .i64 p1, .int .i64 p2, .int .i64 p3] 23) = w := ⟨_, rfl⟩
              have f9 : Fr No w8 w9 := by rw [← hw9]; exact (Fr.refl No w8).alloc _
              have HL9 := Lib.hid (HL8.out.no f9)
              have b0 := f9.cell b0 (fun h => h)
              have b1 := f9.cell b1 (fun h => h)
              have b2 := f9.cell b2 (fun h => h)
              have b3 := f9.cell b3 (fun h => h)
              clear ho hf8 f9 CP HL8 HLP
              rcases HPUT.out with ⟨hp4, hz2⟩ | ⟨hp4, rs2, hz2⟩
              · have e1 : (p4 == 0) = false := by rw [beq_eq_false_iff_ne]; exact hp4
                have HZ2 := Lib.hid hz2
                clear hp4 hz2 HPUT
                go_wp2_with fail
                try rw [hw9]
                try go_wp2_with fail
                go_roundw
                case rel => exact ⟨j + 1, K5, m2, _, us, by simp, by omega, by rw [HUN.out] at *; exact HL9.out, HZ2.out, by have := HD2.out; omega, by rw [HUN.out]; have := HUL.out; omega⟩
                case measure => simp [intOf]; omega
              · have hp4 : p4 = 0 := hp4
                subst hp4
                obtain ⟨u', w10, hrun, hl10, hf10⟩ := HL9.out.push y HUN.out (by have := HUL.out; omega)
                have HRUN := Lib.hid hrun
                have HL10 := Lib.hid hl10
                have HZ2 := Lib.hid hz2
                obtain ⟨va, vn, vc, rfl⟩ : ∃ a n c, u' = .slice a n c := by
                  obtain ⟨a, c, h, _⟩ := hl10.row.ents
                  exact ⟨a, _, c, h⟩
                clear hrun hl10 hf10 hz2 HPUT
                go_wp2_with (at_builtin; refine wpList_append_run rfl _ _ 35 rfl rfl rfl HRUN.out ?_)
                go_roundw
                case rel => exact ⟨j + 1, _, m2, rs2, us ++ [y], by simp, by omega, HL10.out, HZ2.out, by have := HD2.out; omega, by rw [List.length_append, HUN.out]; have := HUL.out; simp; omega⟩
                case measure => simp [intOf]; omega
            · have CP := Lib.hid (HLP.out.ow.putN (eKy y) y.val hrt)
              unfold kyV eKy at CP
              simp only at CP
              clear hrt
              go_wp2_with fail
              refine (show Calls _ _ _ _ _ from CP.out).mono ?_
              rintro e w8 ⟨rfl, ho, hf8⟩
              have f9 := hf8.alloc (.cells #[.int .i64 0, .int .i64 0, .int .i64 0] 23)
              have HL9 := Lib.hid (HLP.out.no f9)
              clear ho hf8 f9 CP HLP
              unfold ptV
              go_wp2_with fail
              go_roundw
              case rel => exact ⟨j + 1, K5, mj, _, us, by simp, by omega, HL9.out, HZP.out, by have := HDP.out; omega, by rw [HUN.out]; have := HUL.out; omega⟩
              case measure => simp [intOf]; omega
          · have d50 : decide ((pn : Int) ≤ 50) = false := by rw [decide_eq_false_iff_not]; omega
            have HLP := Lib.hid HL5.out
            have HZP := Lib.hid HZ.out
            have HDP : Hid (m.done ≤ 2 * j + 1) := Lib.hid (Nat.le_succ_of_le HDN.out)
            by_cases hrt : (eKy y).rt
            · have CP := Lib.hid (HLP.out.ow.putY HZP.out.wf (by have := HDP.out; omega) (by simp) HT.out (eKy y) y.val hrt (by omega))
              have HPUT := Lib.hid (HZP.out.put (by decide) (by decide) y hrt (by omega))
              have HD2 := Lib.hid (Nat.le_trans (done_appDv m [2] (recB (eKy y) y.val)) (Nat.succ_le_succ HDP.out))
              generalize appDv m [2] (recB (eKy y) y.val) = m2 at *
              obtain ⟨⟨p1, p2, p3, p4⟩, hP⟩ : ∃ p, putT m [2] (recB (eKy y) y.val) = p := ⟨_, rfl⟩
              rw [hP] at CP HPUT
              unfold kyV eKy ptV at CP
              simp only at CP
              clear hP
              go_wp2_with fail
              try rw [hw5]
              try go_wp2_with fail
              refine (show Calls _ _ _ _ _ from CP.out).mono ?_
              rintro e w8 ⟨rfl, ho, hf8⟩
              have HL8 := Lib.hid (HLP.out.call ho hf8)
              have b0 := hf8.cell b0 (fun hn => hn HKB.out)
              have b1 := hf8.cell b1 (fun hn => hn HKB.out)
              have b2 := hf8.cell b2 (fun hn => hn HKB.out)
              have b3 := hf8.cell b3 (fun hn => hn HKB.out)
              obtain ⟨w9, hw9⟩ : ∃ w, w8.alloc (.cells #[.int .i64 p1, .int .i64 p2, .int .i64 p3] 23) = w := ⟨_, rfl⟩
              have f9 : Fr No w8 w9 := by rw [← hw9]; exact (Fr.refl No w8).alloc _
              have HL9 := Lib.hid (HL8.out.no f9)
              have b0 := f9.cell b0 (fun h => h)
              have b1 := f9.cell b1 (fun h => h)
              have b2 := f9.cell b2 (fun h => h)
              have b3 := f9.cell b3 (fun h => h)
              clear ho hf8 f9 CP HL8 HLP
              rcases HPUT.out with ⟨hp4, hz2⟩ | ⟨hp4, rs2, hz2⟩
              · have e1 : (p4 == 0) = false := by rw [beq_eq_false_iff_ne]; exact hp4
                have HZ2 := Lib.hid hz2
                clear hp4 hz2 HPUT
                go_wp2_with fail
                try rw [hw9]
                try go_wp2_with fail
                go_roundw
                case rel => exact ⟨j + 1, K5, m2, _, us, by simp, by omega, by rw [HUN.out] at *; exact HL9.out, HZ2.out, by have := HD2.out; omega, by rw [HUN.out]; have := HUL.out; omega⟩
                case measure => simp [intOf]; omega
              · have hp4 : p4 = 0 := hp4
                subst hp4
                obtain ⟨u', w10, hrun, hl10, hf10⟩ := HL9.out.push y HUN.out (by have := HUL.out; omega)
                have HRUN := Lib.hid hrun
                have HL10 := Lib.hid hl10
                have HZ2 := Lib.hid hz2
                obtain ⟨va, vn, vc, rfl⟩ : ∃ a n c, u' = .slice a n c := by
                  obtain ⟨a, c, h, _⟩ := hl10.row.ents
                  exact ⟨a, _, c, h⟩
                clear hrun hl10 hf10 hz2 HPUT
                go_wp2_with (at_builtin; refine wpList_append_run rfl _ _ 35 rfl rfl rfl HRUN.out ?_)
                go_roundw
                case rel => exact ⟨j + 1, _, m2, rs2, us ++ [y], by simp, by omega, HL10.out, HZ2.out, by have := HD2.out; omega, by rw [List.length_append, HUN.out]; have := HUL.out; simp; omega⟩
                case measure => simp [intOf]; omega
            · have CP := Lib.hid (HLP.out.ow.putN (eKy y) y.val hrt)
              unfold kyV eKy at CP
              simp only at CP
              clear hrt
              go_wp2_with fail
              try rw [hw5]
              try go_wp2_with fail
              refine (show Calls _ _ _ _ _ from CP.out).mono ?_
              rintro e w8 ⟨rfl, ho, hf8⟩
              have f9 := hf8.alloc (.cells #[.int .i64 0, .int .i64 0, .int .i64 0] 23)
              have HL9 := Lib.hid (HLP.out.no f9)
              clear ho hf8 f9 CP HLP
              unfold ptV
              go_wp2_with fail
              go_roundw
              case rel => exact ⟨j + 1, K5, m, _, us, by simp, by omega, HL9.out, HZP.out, by have := HDP.out; omega, by rw [HUN.out]; have := HUL.out; omega⟩
              case measure => simp [intOf]; omega
        · have dq : decide ((j : Int) < (qn : Int)) = false := by rw [decide_eq_false_iff_not]; omega
          have HLP := Lib.hid HL5.out
          have HZP := Lib.hid HZ.out
          have HDP : Hid (m.done ≤ 2 * j + 1) := Lib.hid (Nat.le_succ_of_le HDN.out)
          by_cases hrt : (eKy y).rt
          · have CP := Lib.hid (HLP.out.ow.putY HZP.out.wf (by have := HDP.out; omega) (by simp) HT.out (eKy y) y.val hrt (by omega))
            have HPUT := Lib.hid (HZP.out.put (by decide) (by decide) y hrt (by omega))
            have HD2 := Lib.hid (Nat.le_trans (done_appDv m [2] (recB (eKy y) y.val)) (Nat.succ_le_succ HDP.out))
            generalize appDv m [2] (recB (eKy y) y.val) = m2 at *
            obtain ⟨⟨p1, p2, p3, p4⟩, hP⟩ : ∃ p, putT m [2] (recB (eKy y) y.val) = p := ⟨_, rfl⟩
            rw [hP] at CP HPUT
            unfold kyV eKy ptV at CP
            simp only at CP
            clear hP
            go_wp2_with fail
            try rw [hw5]
            try go_wp2_with fail
            refine (show Calls _ _ _ _ _ from CP.out).mono ?_
            rintro e w8 ⟨rfl, ho, hf8⟩
            have HL8 := Lib.hid (HLP.out.call ho hf8)
            have b0 := hf8.cell b0 (fun hn => hn HKB.out)
            have b1 := hf8.cell b1 (fun hn => hn HKB.out)
            have b2 := hf8.cell b2 (fun hn => hn HKB.out)
            have b3 := hf8.cell b3 (fun hn => hn HKB.out)
            obtain ⟨w9, hw9⟩ : ∃ w, w8.alloc (.cells #[.int .i64 p1, .int .i64 p2, .int .i64 p3] 23) = w := ⟨_, rfl⟩
            have f9 : Fr No w8 w9 := by rw [← hw9]; exact (Fr.refl No w8).alloc _
            have HL9 := Lib.hid (HL8.out.no f9)
            have b0 := f9.cell b0 (fun h => h)
            have b1 := f9.cell b1 (fun h => h)
            have b2 := f9.cell b2 (fun h => h)
            have b3 := f9.cell b3 (fun h => h)
            clear ho hf8 f9 CP HL8 HLP
            rcases HPUT.out with ⟨hp4, hz2⟩ | ⟨hp4, rs2, hz2⟩
            · have e1 : (p4 == 0) = false := by rw [beq_eq_false_iff_ne]; exact hp4
              have HZ2 := Lib.hid hz2
              clear hp4 hz2 HPUT
              go_wp2_with fail
              try rw [hw9]
              try go_wp2_with fail
              go_roundw
              case rel => exact ⟨j + 1, K5, m2, _, us, by simp, by omega, by rw [HUN.out] at *; exact HL9.out, HZ2.out, by have := HD2.out; omega, by rw [HUN.out]; have := HUL.out; omega⟩
              case measure => simp [intOf]; omega
            · have hp4 : p4 = 0 := hp4
              subst hp4
              obtain ⟨u', w10, hrun, hl10, hf10⟩ := HL9.out.push y HUN.out (by have := HUL.out; omega)
              have HRUN := Lib.hid hrun
              have HL10 := Lib.hid hl10
              have HZ2 := Lib.hid hz2
              obtain ⟨va, vn, vc, rfl⟩ : ∃ a n c, u' = .slice a n c := by
                obtain ⟨a, c, h, _⟩ := hl10.row.ents
                exact ⟨a, _, c, h⟩
              clear hrun hl10 hf10 hz2 HPUT
              go_wp2_with (at_builtin; refine wpList_append_run rfl _ _ 35 rfl rfl rfl HRUN.out ?_)
              go_roundw
              case rel => exact ⟨j + 1, _, m2, rs2, us ++ [y], by simp, by omega, HL10.out, HZ2.out, by have := HD2.out; omega, by rw [List.length_append, HUN.out]; have := HUL.out; simp; omega⟩
              case measure => simp [intOf]; omega
          · have CP := Lib.hid (HLP.out.ow.putN (eKy y) y.val hrt)
            unfold kyV eKy at CP
            simp only at CP
            clear hrt
            go_wp2_with fail
            try rw [hw5]
            try go_wp2_with fail
            refine (show Calls _ _ _ _ _ from CP.out).mono ?_
            rintro e w8 ⟨rfl, ho, hf8⟩
            have f9 := hf8.alloc (.cells #[.int .i64 0, .int .i64 0, .int .i64 0] 23)
            have HL9 := Lib.hid (HLP.out.no f9)
            clear ho hf8 f9 CP HLP
            unfold ptV
            go_wp2_with fail
            go_roundw
            case rel => exact ⟨j + 1, K5, m, _, us, by simp, by omega, HL9.out, HZP.out, by have := HDP.out; omega, by rw [HUN.out]; have := HUL.out; omega⟩
            case measure => simp [intOf]; omega
      · obtain rfl : ln = j := by omega
        have d1 : decide ((ln : Int) < (ln : Int)) = false := by simp
        obtain ⟨V, v1, v2, v3, v4, v5, v6⟩ := HZ.out.list (by decide) (by decide)
        obtain ⟨V2, x1, x2, x3, x4, x5, x6⟩ := v6 rl
        have CL := HLI.out.ow.list HZ.out.wf HT.out 2
        rw [v1, v2] at CL
        have CL := Lib.hid CL
        have HV4 := Lib.hid v4
        have HX1 := Lib.hid (And.intro x1 x2)
        have HX4 := Lib.hid x4
        have HX6 := Lib.hid x6
        have HWF := Lib.hid HZ.out.wf
        have HWF2 := Lib.hid x5
        have hul := HUL.out
        rw [HUN.out] at v3 HV4
        rw [v3] at x3 HX4
        clear v1 v2 v4 v5 v6 x1 x2 x4 x5 x6 HZ
        obtain ⟨V2n, hv2n⟩ : ∃ n, V2.length = n := ⟨_, rfl⟩
        have HV2N := Lib.hid hv2n
        have HVN := Lib.hid v3
        rw [hv2n] at x3
        clear hv2n v3
        go_wp2_with fail
        refine (show Calls _ _ _ _ _ from CL.out).mono ?_
        rintro e w5 ⟨hret, ho, hf5⟩
        rcases hret with ⟨h0, _⟩ | ⟨_, vw, rfl, hrow, _⟩
        · exact absurd rfl h0
        have HL5 := Lib.hid (HLI.out.new hf5)
        have hr5 : RowG w5 (Gr K wr w5) 61 7 vw V.length (vlsC V) := hrow.sub fun k _ hk => hk.elim (fun h => h.elim) .inr
        obtain ⟨wa, wc, rfl, w1', w2', _⟩ := hr5.vls
        rw [HVN.out] at hr5 w1'
        rw [HVN.out]
        have HW5 := Lib.hid hr5
        have HF5 := Lib.hid hf5
        have CAP := Lib.hid (HL5.out.ow.dapp HWF.out (by have := HDN.out; omega) 2 ra rn rc rl HRN.out (by omega) hrc (by unfold maxLen; omega) HRD.out)
        generalize Gr K wr w5 = K5 at *
        generalize cmdR m (appErr m 2 rl) = ce at *
        have d2 : ((un : Int) != (un : Int)) = false := by simp
        clear ho hf5 hrow hr5 CL HLI w2'
        go_wp2_with fail
        refine (show Calls _ _ _ _ _ from CAP.out).mono ?_
        rintro e w6 ⟨rfl, ho, hf6⟩
        have HL6 := Lib.hid (HL5.out.call ho hf6)
        have HW6 := Lib.hid (HW5.out.keep hf6 fun k hk hn => hn hk)
        have CL := ho.list HWF2.out HT.out 2
        rw [HX1.out.1, HX1.out.2] at CL
        have CL := Lib.hid CL
        generalize appM m 2 rl = m2 at *
        clear ho hf6 CAP HL5 HW5
        go_wp2_with fail
        refine (show Calls _ _ _ _ _ from CL.out).mono ?_
        rintro e w7 ⟨hret, ho, hf7⟩
        rcases hret with ⟨h0, _⟩ | ⟨_, vm, rfl, hrow, _⟩
        · exact absurd rfl h0
        have HL7 := Lib.hid (HL6.out.new hf7)
        have hr7 : RowG w7 (Gr K5 w6 w7) 61 7 vm V2.length (vlsC V2) := hrow.sub fun k _ hk => hk.elim (fun h => h.elim) .inr
        obtain ⟨ma, mc, rfl, m1', m2', hmv⟩ := hr7.vls
        rw [HV2N.out] at m1'
        rw [HV2N.out]
        have HMV := Lib.hid hmv
        have hw7 := HW6.out.keep hf7 (fun _ _ h => h)
        rw [← HVN.out] at hw7
        obtain ⟨a8, c8, he8, _, _, hwv⟩ := hw7.vls
        rw [HVN.out] at he8
        obtain ⟨rfl, _, rfl⟩ := Value.slice.inj he8
        have HWV := Lib.hid hwv
        have hent := HL7.out.row
        rw [← HUN.out] at hent
        obtain ⟨a9, c9, he9, _, _, hev⟩ := hent.ents
        rw [HUN.out] at he9
        obtain ⟨rfl, _, rfl⟩ := Value.slice.inj he9
        have HEV := Lib.hid hev
        have d3 : decide ((V2n : Int) < (un : Int)) = false := by rw [decide_eq_false_iff_not]; omega
        have d3' : decide (V2n < un) = false := by rw [decide_eq_false_iff_not]; omega
        have hwc := w1'
        generalize Gr K5 w6 w7 = K7 at *
        clear ho hf7 hrow hr7 hmv hw7 hwv hent hev he8 he9 CL HL6 HW6 m2'
        go_wp2_with fail
        go_loopw [126] (fun i wr => ∃ j : Nat, i = .int .i64 j ∧ j ≤ un ∧ Fr No w7 wr) (fun i _ => un - (intOf i).toNat)
        case atStart => exact ⟨0, rfl, Nat.zero_le _, Fr.refl _ _⟩
        case round =>
          obtain ⟨j, rfl, hj, hfr⟩ := hrel
          have HFR := Lib.hid hfr
          clear hfr
          by_cases h1 : j < un
          · have d1 : decide ((j : Int) < (un : Int)) = true := by rw [decide_eq_true_eq]; omega
            obtain ⟨eb, eo, _, rfl, hex⟩ := HEV.out (by rw [HUN.out]; omega)
            have hx := (hex j (by rw [HUN.out]; exact h1)).keep HFR.out (fun h => h)
            obtain ⟨wb, wo, _, rfl, hwx⟩ := HWV.out (by rw [HVN.out]; omega)
            have hy := (hwx j (by rw [HVN.out]; exact h1)).keep HFR.out (fun h => h)
            obtain ⟨mb, mo, _, rfl, hmx⟩ := HMV.out (by rw [HV2N.out]; omega)
            have hz := (hmx j (by rw [HV2N.out]; omega)).keep HFR.out (fun h => h)
            have e4 := HV4.out j (by first | exact h1 | (rw [HUN.out]; exact h1))
            rw [HX4.out j h1] at hz
            have HEX := Lib.hid (And.intro hex (And.intro hwx hmx))
            clear hex hwx hmx
            obtain ⟨x, hxe⟩ : ∃ x, us.getD j ent0 = x := ⟨_, rfl⟩
            obtain ⟨y, hye⟩ : ∃ y, V.getD j vl0 = y := ⟨_, rfl⟩
            rw [hxe] at hx e4
            rw [hye] at hy hz e4
            clear hxe hye
            obtain ⟨f0, f1, f2, f3⟩ := hx
            have HK := Lib.hid (keyNeq y.x (eKy x) e4.1)
            have HVq := Lib.hid (vlNeq y y rfl)
            obtain ⟨⟨yu, yq, yk⟩, ys, yz, yt, yn⟩ := y
            simp only at e4 hy hz HK HVq
            obtain ⟨e41, rfl⟩ := e4
            unfold eKy at e41
            simp only [Ky.mk.injEq] at e41
            obtain ⟨rfl, rfl, rfl⟩ := e41
            obtain ⟨g0, g1, g2, g3, g4, g5, g6⟩ := hy
            obtain ⟨k0, k1, k2, k3, k4, k5, k6⟩ := hz
            simp only at g0 g1 g2 g3 g4 g5 g6 k0 k1 k2 k3 k4 k5 k6
            unfold eKy at HK
            have hk := HK.out
            have hvq := HVq.out
            obtain ⟨w8, hw8⟩ : ∃ w, wr.alloc (.cells #[.string x.u, .int .i64 x.q, .int .i64 x.k, .string x.val] 45) = w := ⟨_, rfl⟩
            have A8 : At w8 wr.heap.size 45 #[.string x.u, .int .i64 x.q, .int .i64 x.k, .string x.val] := by rw [← hw8]; exact At.new _ _ _
            have f8 : Fr No wr w8 := by rw [← hw8]; exact (Fr.refl No wr).alloc _
            have b0 := A8.cell 0
            have b1 := A8.cell 1
            have b2 := A8.cell 2
            have b3 := A8.cell 3
            simp at b0 b1 b2 b3
            have g0 := f8.cell g0 (fun h => h)
            have g1 := f8.cell g1 (fun h => h)
            have g2 := f8.cell g2 (fun h => h)
            have g3 := f8.cell g3 (fun h => h)
            have g4 := f8.cell g4 (fun h => h)
            have g5 := f8.cell g5 (fun h => h)
            have g6 := f8.cell g6 (fun h => h)
            have k0 := f8.cell k0 (fun h => h)
            have k1 := f8.cell k1 (fun h => h)
            have k2 := f8.cell k2 (fun h => h)
            have k3 := f8.cell k3 (fun h => h)
            have k4 := f8.cell k4 (fun h => h)
            have k5 := f8.cell k5 (fun h => h)
            have k6 := f8.cell k6 (fun h => h)
            have HF8 := Lib.hid (HFR.out.trans f8)
            have dm : (j : Int) < (V2n : Int) := by omega
            clear A8 f8 HFR
            go_wp2_with fail
            try rw [hw8]
            try go_wp2_with fail
            go_quiet (fail)
            go_wp2_with fail
            go_roundw
            case rel => exact ⟨j + 1, by simp, by omega, HF8.out.drewN _⟩
            case measure => simp [intOf]; omega
          · obtain rfl : un = j := by omega
            have d1 : decide ((un : Int) < (un : Int)) = false := by simp
            have CL := (HL7.out.no HFR.out).ow.list HWF2.out HT.out 4
            rw [HX6.out] at CL
            have CL := Lib.hid CL
            go_wp2_with fail
            refine (show Calls _ _ _ _ _ from CL.out).mono ?_
            rintro e w8 ⟨hret, ho, hf8⟩
            rcases hret with ⟨_, rfl, _⟩ | ⟨h0, _⟩
            · have HF8 := Lib.hid ho.fr
              clear ho hf8 CL
              go_wp2_with fail
              refine (CA.out _ HF8.out).mono ?_
              rintro e w9 ⟨rfl, hf⟩
              have HF9 := Lib.hid (HF8.out.trans hf)
              clear hf
              go_wp2_with fail
              go_ret
              exact ⟨rfl, HF9.out⟩
            · exact absurd h0 (by decide)
end Go.Proofs.YtihahckjcedceaaDoor
