/-
  Layer 6: the walk of MergeWalks, over the contracts of the cursor.
-/
import Derived.Test.YtkcgdmhggndhfaaMgCu
namespace Go.Proofs.Ytkcgdmhggndhfaa
set_option linter.unusedVariables false
open Go.RowKit

theorem oneL_le {rs : List Rn} (hs : ∀ x ∈ rs, x.l.length ≤ 40) : (oneP (lens rs)).length ≤ 40 * rs.length := by
  have key : ∀ (ls : List (List P2)) (out : List P2), (∀ l ∈ ls, l.length ≤ 40) → (ls.foldl oneRun out).length ≤ out.length + 40 * ls.length := by
    intro ls
    induction ls with
    | nil => intro out _; exact Nat.le_refl _
    | cons l ls ih =>
      intro out h
      have h1 := oneRun_le l out
      have h2 := h l (List.mem_cons_self ..)
      have h3 := ih (oneRun out l) (fun m hm => h m (List.mem_cons_of_mem _ hm))
      show (ls.foldl oneRun (oneRun out l)).length ≤ _
      rw [List.length_cons]
      omega
  have := key (lens rs) [] (fun m hm => by
    obtain ⟨x, hx, e⟩ := List.mem_map.1 hm
    rw [← e]
    exact hs x hx)
  have h5 : (lens rs).length = rs.length := by unfold lens; rw [List.length_map]
  rw [h5, List.length_nil] at this
  unfold oneP
  omega
set_option maxRecDepth 20000 in
set_option maxHeartbeats 16000000 in
theorem mergeWalks_walk (M : MergeOK) {C : World → Nat → (Nat → Prop) → (Nat → Prop) → List P2 → Int → Prop} (K : CurOK C) (W : World) (a : Option Addr) (cap : Nat) (rs : List Rn) (hc : rs.length ≤ cap) (hm : cap ≤ maxLen) (rd : InR W (Till W.heap.size) a rs)
    (a' : Option Addr) (cap' : Nat) (ss : List P2) (hc' : ss.length ≤ cap') (hm' : cap' ≤ maxLen) (rd' : InP W (Till W.heap.size) a' ss) :
    Calls Try.prog 5 #[.slice a rs.length cap, .slice a' ss.length cap'] W fun e w' => e = .returned (.bool true) ∧ Below W.heap.size W w' := by
  have HM := Lib.hid M
  have HK := Lib.hid K
  have HRD := Lib.hid rd
  have HRD' := Lib.hid rd'
  have HCM := Lib.hid hm
  have HC := Lib.hid hc
  unfold maxLen at hm hm'
  have HSM := Lib.hid (small_c _ a cap rs W hc HCM.out rd)
  have fin : ∀ w' : World, Fr No W w' → Below W.heap.size W w' := fun w' f => f.below (Nat.le_refl _) (fun _ h => h.elim)
  have FIN := Lib.hid fin
  clear fin rd rd'
  obtain ⟨ns, hns⟩ : ∃ z, ss.length = z := ⟨_, rfl⟩
  rw [hns] at hc'
  rw [hns]
  have HNS := Lib.hid hns
  clear hns
  cases hsm : smallR rs with
  | false =>
    rw [hsm] at HSM
    clear hsm
    generalize rs.length = n at *
    go_enter Try.func5, Try.ntmps5
    go_wp2_with fail
    refine HSM.out.mono ?_
    rintro e w1 ⟨rfl, rfl⟩
    go_wp2_with fail
    refine (awake_c HM.out _).mono ?_
    rintro e w2 ⟨rfl, f2⟩
    have HF2 := Lib.hid f2
    clear f2
    go_wp2_with fail
    go_ret
    exact ⟨rfl, FIN.out _ HF2.out⟩
  | true =>
    rw [hsm] at HSM
    have HSR := Lib.hid hsm
    obtain ⟨hl, hs⟩ := smallR_le hsm
    have HS := Lib.hid hs
    have HALL := Lib.hid (all_c _ a cap rs W (by omega) (fun x hx => Nat.le_trans (hs x hx) (by omega)) hc HCM.out HRD.out)
    have HLB := oneL_le hs
    clear hsm hs
    obtain ⟨n, hn⟩ : ∃ n, rs.length = n := ⟨_, rfl⟩
    rw [hn] at hc hl HSM HALL HLB
    rw [hn]
    have HN := Lib.hid hn
    clear hn
    go_enter Try.func5, Try.ntmps5
    by_cases hbig : 80 < ns
    · have d1 : decide ((80 : Int) < (ns : Int)) = true := by rw [decide_eq_true_eq]; omega
      go_wp2_with fail
      refine HSM.out.mono ?_
      rintro e w1 ⟨rfl, rfl⟩
      go_wp2_with fail
      refine (awake_c HM.out _).mono ?_
      rintro e w2 ⟨rfl, f2⟩
      have HF2 := Lib.hid f2
      clear f2
      go_wp2_with fail
      go_ret
      exact ⟨rfl, FIN.out _ HF2.out⟩
    have d1 : decide ((80 : Int) < (ns : Int)) = false := by rw [decide_eq_false_iff_not]; omega
    go_wp2_with fail
    refine HSM.out.mono ?_
    rintro e w1 ⟨rfl, rfl⟩
    go_wp2_with fail
    refine HALL.out.mono ?_
    rintro e w2 ⟨qa, qc, qs, rfl, hqc, hqm, hqs, hq, f2⟩
    have HQS := Lib.hid hqs
    have HF2 := Lib.hid f2
    have hqn : qs.length = n := (lens_len hqs).trans HN.out
    have HNE := K.new _ qa qc qs w2 (by omega) (lens_mem hqs (fun x hx => Nat.le_trans (HS.out x hx) (by omega))) hqc hqm hq
    unfold maxLen at hqm
    rw [hqn] at hqc HNE
    rw [hqn]
    rw [lens_runs HQS.out, HQS.out] at HNE
    have HNE := Lib.hid HNE
    clear hqs f2 hqn hq d1
    go_wp2_with fail
    refine HNE.out.mono ?_
    rintro e w3 ⟨f3, hno, hyes⟩
    have HF3 := Lib.hid (HF2.out.trans f3)
    have HRU := refRuns_c _ a cap rs w3 HC.out HCM.out (fun x hx => Nat.le_trans (HS.out x hx) (by omega)) (HRD.out.keep HF3.out (fun _ _ h => h))
    rw [HN.out] at HRU
    cases hR : runsR rs with
    | false =>
      rw [hR] at HRU
      have HRU := Lib.hid HRU
      obtain rfl := hno hR
      clear hR hno hyes f3
      go_wp2_with fail
      refine HRU.out.mono ?_
      rintro e w4 ⟨rfl, f4⟩
      have HF4 := Lib.hid (HF3.out.trans f4)
      clear f4
      go_wp2_with fail
      refine (awake_c HM.out _).mono ?_
      rintro e w5 ⟨rfl, f5⟩
      have HF5 := Lib.hid (HF4.out.trans f5)
      clear f5
      go_wp2_with fail
      go_ret
      exact ⟨rfl, FIN.out _ HF5.out⟩
    | true =>
      rw [hR] at HRU
      have HRU := Lib.hid HRU
      obtain ⟨c, X, Y, rfl, hC, hY⟩ := hyes hR
      have HC3 := Lib.hid hC
      have HY3 : Hid (∀ k, Y k → W.heap.size ≤ k) := Lib.hid fun k hk => Nat.le_trans HF2.out.size (hY k hk)
      clear hR hno hyes f3 hC hY
      go_wp2_with fail
      refine HRU.out.mono ?_
      rintro e w4 ⟨rfl, f4⟩
      have HF4 := Lib.hid (HF3.out.trans f4)
      have HC4 := Lib.hid (HK.out.keep HC3.out f4 (fun _ _ h => h))
      have HVA := Lib.hid (HK.out.valid HC4.out)
      rw [show decide ((0 : Int) ≤ -1) = false by decide] at HVA
      clear f4
      go_wp2_with fail
      refine HVA.out.mono ?_
      rintro e w5 ⟨rfl, f5⟩
      have HF5 := Lib.hid (HF4.out.trans f5)
      have HC5 := Lib.hid (HK.out.keep HC4.out f5 (fun _ _ h => h))
      have HON := refOne_c _ a cap rs w5 HSR.out HC.out HCM.out (HRD.out.keep HF5.out (fun _ _ h => h))
      rw [HN.out] at HON
      have HON := Lib.hid HON
      clear f5
      go_wp2_with fail
      refine HON.out.mono ?_
      rintro e w6 ⟨u, rfl, ⟨oa, oc, rfl, ole, ocm, oin⟩, f6⟩
      have HF6 := Lib.hid (HF5.out.trans f6)
      have HC6 := Lib.hid (HK.out.keep HC5.out f6 (fun _ _ h => h))
      obtain ⟨XL, hXL⟩ : ∃ z : Nat → Prop, z = fun k => w5.heap.size ≤ k ∧ k < w6.heap.size := ⟨_, rfl⟩
      have HL6 : Hid (InP w6 XL oa (oneP (lens rs))) := Lib.hid (oin.sub fun k hk h => by rw [hXL]; exact ⟨h, hk⟩)
      have HXL : Hid (∀ k, Y k → ¬ XL k) := Lib.hid fun k hk h => by
        rw [hXL] at h
        have := HK.out.low HC5.out k (.inr hk)
        omega
      have HXB : Hid (∀ k, XL k → k < w6.heap.size) := Lib.hid fun k h => by rw [hXL] at h; exact h.2
      unfold maxLen at ocm
      clear f6 oin hXL
      obtain ⟨L, hL⟩ : ∃ z, oneP (lens rs) = z := ⟨_, rfl⟩
      rw [hL] at HC6 HL6 HLB ole
      rw [hL]
      clear hL
      obtain ⟨m, hm0⟩ : ∃ z, L.length = z := ⟨_, rfl⟩
      rw [hm0] at HLB ole
      rw [hm0]
      have HML := Lib.hid hm0
      have hmb : m ≤ 400 := by omega
      clear hm0
      go_wp2_with fail
      go_loopw [8, 54] (fun v i wr => ∃ (j : Nat) (t : Int) (X Y : Nat → Prop), i = .int .i64 j ∧ j ≤ ns ∧ v = .int .i64 t ∧ (t = -1 ∨ (0 ≤ t ∧ t < (m : Int))) ∧ C wr c X Y L t ∧ InP wr XL oa L ∧ (∀ k, Y k → W.heap.size ≤ k) ∧ (∀ k, Y k → ¬ XL k) ∧ w6.heap.size ≤ wr.heap.size ∧ Fr No W wr) (fun _ i _ => ns - (intOf i).toNat)
      case atStart => exact ⟨0, -1, X, Y, rfl, Nat.zero_le _, rfl, .inl rfl, HC6.out, HL6.out, HY3.out, HXL.out, Nat.le_refl _, HF6.out⟩
      case round =>
        clear HC3 HC4 HC5 HC6 HL6 HY3 HXL
        obtain ⟨j, t, X, Y, rfl, hj, rfl, htb, hC, hL, hY, hXL, hsz, hfr⟩ := hrel
        have HCr := Lib.hid hC
        have HLr := Lib.hid hL
        have HYr := Lib.hid hY
        have HXr := Lib.hid hXL
        have HSZ := Lib.hid hsz
        have HF := Lib.hid hfr
        clear hC hL hY hXL hsz hfr
        by_cases h1 : j < ns
        · have d1 : decide ((j : Int) < (ns : Int)) = true := by rw [decide_eq_true_eq]; omega
          obtain ⟨g, p, _, rfl, hx⟩ := HRD'.out (by rw [HNS.out]; omega)
          obtain ⟨q0, q1⟩ := hx j (by rw [HNS.out]; exact h1)
          have q0 := HF.out.cell q0 (fun h => h)
          have q1 := HF.out.cell q1 (fun h => h)
          clear hx
          generalize (ss.getD j p20).1 = kd at *
          generalize (ss.getD j p20).2 = ks at *
          -- the step's own variable
          have fA := (Fr.refl No wr).alloc (.cells #[.int .i64 kd, .int .i64 ks] 46)
          have b0 : (wr.alloc (.cells #[.int .i64 kd, .int .i64 ks] 46)).cell? ⟨wr.heap.size, 0, none⟩ = some (.int .i64 kd) := (At.new wr 46 #[.int .i64 kd, .int .i64 ks]).cell 0
          have b1 : (wr.alloc (.cells #[.int .i64 kd, .int .i64 ks] 46)).cell? ⟨wr.heap.size, 1, none⟩ = some (.int .i64 ks) := (At.new wr 46 #[.int .i64 kd, .int .i64 ks]).cell 1
          have HVA := HK.out.valid (HK.out.keep HCr.out fA (fun _ _ h => h))
          have HVA := Lib.hid HVA
          obtain ⟨V, hV⟩ : ∃ z, decide (0 ≤ t) = z := ⟨_, rfl⟩
          rw [hV] at HVA
          have HV := Lib.hid hV
          have HCA := Lib.hid (HK.out.keep HCr.out fA (fun _ _ h => h))
          have HLA := Lib.hid (HLr.out.keep fA (fun _ _ h => h))
          have HFA := Lib.hid (HF.out.trans fA)
          have HFw := Lib.hid fA
          have hsb := HK.out.low HCr.out
          have HOB : Hid (∀ k, Y k → k ≠ wr.heap.size) := Lib.hid fun k hk => Nat.ne_of_lt (hsb k (.inr hk))
          clear fA hV hsb
          go_wp2_with fail
          refine HVA.out.mono ?_
          rintro e w7 ⟨rfl, f7⟩
          have HC7 := Lib.hid (HK.out.keep HCA.out f7 (fun _ _ h => h))
          have HL7 := Lib.hid (HLA.out.keep f7 (fun _ _ h => h))
          have HF7 := Lib.hid (HFA.out.trans f7)
          have e0 := f7.cell b0 (fun h => h)
          have e1 := f7.cell b1 (fun h => h)
          have HG7 := Lib.hid (HFw.out.trans f7)
          clear f7 b0 b1 q0 q1
          by_cases hk1 : kd = 1
          · as_aux_lemma =>
              have hkd : kd = 1 := hk1
              subst hkd
              clear hk1
              have HMV := Lib.hid (HK.out.first HC7.out)
              by_cases hz : m = 0
              · subst hz
                have g1 : decide (((0 : Nat) : Int) ≤ 0) = true := by first | (rw [decide_eq_true_eq]; omega) | (rw [decide_eq_false_iff_not]; omega)
                go_wp2_with fail
                refine HMV.out.mono ?_
                rintro e w8 ⟨rfl, X8, Y8, hC8, hX8, hY8, f8⟩
                rw [show firstI L.length = -1 by unfold firstI; rw [HML.out]; rfl] at hC8
                rw [show firstI L.length = -1 by unfold firstI; rw [HML.out]; rfl]
                rw [show decide ((0 : Int) ≤ -1) = false by first | (rw [decide_eq_true_eq]; omega) | (rw [decide_eq_false_iff_not]; omega)]
                have HC8 := Lib.hid hC8
                have HL8 := Lib.hid (HL7.out.keep f8 (fun k hk hy => HXr.out k hy hk))
                have HF8 : Hid (Fr No W w8) := Lib.hid (HF7.out.then_ f8 fun k hk hy => absurd (HYr.out k hy) (by omega))
                have HY8 : Hid (∀ k, Y8 k → W.heap.size ≤ k) := Lib.hid fun k hk => (hY8 k hk).elim (HYr.out k) (fun h => Nat.le_trans HF7.out.size h.1)
                have HX8 : Hid (∀ k, Y8 k → ¬ XL k) := Lib.hid fun k hk h => (hY8 k hk).elim (fun hy => HXr.out k hy h) (fun hn => by
                  have h1 := HXB.out k h
                  have h2 := HSZ.out
                  have h3 := HG7.out.size
                  omega)
                have HS8 : Hid (w6.heap.size ≤ w8.heap.size) := Lib.hid (Nat.le_trans (Nat.le_trans HSZ.out HG7.out.size) f8.size)
                have e3 := f8.cell e1 (fun hy => HOB.out _ hy rfl)
                clear hC8 hX8 hY8 f8 e0 e1
                have HIT := HK.out.item HC8.out
                rw [show itemI L (-1) = (0, 0) by unfold itemI; rw [if_neg (by omega)]] at HIT
                have HIT := Lib.hid HIT
                go_wp2_with fail
                refine HIT.out.mono ?_
                rintro e w9 ⟨rfl, f9⟩
                have HC9 := HK.out.keep HC8.out f9 (fun _ _ h => h)
                have HL9 := HL8.out.keep f9 (fun _ _ h => h)
                have HF9 := HF8.out.trans f9
                have fB := (Fr.refl No w9).alloc (.cells #[.int .i64 0, .int .i64 0] 49)
                have x0 : (w9.alloc (.cells #[.int .i64 0, .int .i64 0] 49)).drew.cell? ⟨w9.heap.size, 0, none⟩ = some (.int .i64 0) := (At.new w9 49 #[.int .i64 0, .int .i64 0]).cell 0
                have x1 : (w9.alloc (.cells #[.int .i64 0, .int .i64 0] 49)).drew.cell? ⟨w9.heap.size, 1, none⟩ = some (.int .i64 0) := (At.new w9 49 #[.int .i64 0, .int .i64 0]).cell 1
                have HCD := Lib.hid (HK.out.keep HC9 fB.drew (fun _ _ h => h))
                have HLD := Lib.hid (HL9.keep fB.drew (fun _ _ h => h))
                have HFD := Lib.hid (HF9.trans fB.drew)
                have HSD := Lib.hid (Nat.le_trans HS8.out (f9.trans fB.drew).size)
                have HV9 := HK.out.valid HCD.out
                rw [show decide ((0 : Int) ≤ -1) = false by first | (rw [decide_eq_true_eq]; omega) | (rw [decide_eq_false_iff_not]; omega)] at HV9
                have HV9 := Lib.hid HV9
                have r3 : decide ((0 : Int) ≤ -1) = false := by first | (rw [decide_eq_true_eq]; omega) | (rw [decide_eq_false_iff_not]; omega)
                clear f9 HC9 HL9 HF9 fB
                try clear e3
                try clear e0 e1
                go_wp2_with fail
                refine wp_region_held_drew (S := fun w' => w'.cell? ⟨w9.heap.size, 0, none⟩ = some (.int .i64 0) ∧ w'.cell? ⟨w9.heap.size, 1, none⟩ = some (.int .i64 0)) (by kernel_rfl) ⟨x0, x1⟩ (fun hHeld => ?_)
                refine take_drop (i := 0) (v := ?v0_1) rfl (by kernel_rfl) (by kernel_rfl) (by kernel_rfl) (fun _ _ _ h => h) (Or.inl ⟨by rfl, ?h0_1⟩) hHeld ?r0_1
                case h0_1 => (intro wS hSw; obtain ⟨s0, s1⟩ := hSw; go_simp; all_goals (with_reducible rfl))
                simp only [Act.put, List.setIfInBounds_toArray, List.set_cons_zero, List.set_cons_succ]
                refine take_drop (i := 1) (v := ?v1_1) rfl (by kernel_rfl) (by kernel_rfl) (by kernel_rfl) (fun _ _ _ h => h) (Or.inl ⟨by rfl, ?h1_1⟩) hHeld ?r1_1
                case h1_1 => (intro wS hSw; obtain ⟨s0, s1⟩ := hSw; go_simp; all_goals (with_reducible rfl))
                simp only [Act.put, List.setIfInBounds_toArray, List.set_cons_zero, List.set_cons_succ]
                refine take_drop (i := 2) (v := ?v2_1) rfl (by kernel_rfl) (by kernel_rfl) (by kernel_rfl) (fun _ _ _ h => h) (Or.inl ⟨by rfl, ?h2_1⟩) hHeld ?r2_1
                case h2_1 => (intro wS hSw; obtain ⟨s0, s1⟩ := hSw; go_simp; all_goals (with_reducible rfl))
                simp only [Act.put, List.setIfInBounds_toArray, List.set_cons_zero, List.set_cons_succ]
                refine take_drop (i := 3) (v := ?v3_1) rfl (by kernel_rfl) (by kernel_rfl) (by kernel_rfl) (fun _ _ _ h => h) (Or.inl ⟨by rfl, ?h3_1⟩) hHeld ?r3_1
                case h3_1 => (intro wS hSw; obtain ⟨s0, s1⟩ := hSw; go_simp; all_goals (with_reducible rfl))
                simp only [Act.put, List.setIfInBounds_toArray, List.set_cons_zero, List.set_cons_succ]
                refine take_drop (i := 4) (v := ?v4_1) rfl (by kernel_rfl) (by kernel_rfl) (by kernel_rfl) (fun _ _ _ h => h) (Or.inl ⟨by rfl, ?h4_1⟩) hHeld ?r4_1
                case h4_1 => (intro wS hSw; obtain ⟨s0, s1⟩ := hSw; go_simp; all_goals (with_reducible rfl))
                simp only [Act.put, List.setIfInBounds_toArray, List.set_cons_zero, List.set_cons_succ]
                refine take_drop (i := 5) (v := ?v5_1) rfl (by kernel_rfl) (by kernel_rfl) (by kernel_rfl) (fun _ _ _ h => h) (Or.inl ⟨by rfl, ?h5_1⟩) hHeld ?r5_1
                case h5_1 => (intro wS hSw; obtain ⟨s0, s1⟩ := hSw; go_simp; all_goals (with_reducible rfl))
                simp only [Act.put, List.setIfInBounds_toArray, List.set_cons_zero, List.set_cons_succ]
                refine take_drop (i := 7) (v := ?v7_1) rfl (by kernel_rfl) (by kernel_rfl) (by kernel_rfl) (fun _ _ _ h => h) (Or.inl ⟨by rfl, ?h7_1⟩) hHeld ?r7_1
                case h7_1 => (intro wS hSw; obtain ⟨s0, s1⟩ := hSw; go_simp; all_goals (with_reducible rfl))
                simp only [Act.put, List.setIfInBounds_toArray, List.set_cons_zero, List.set_cons_succ]
                refine wpAnyH_ready (rs := [6]) (by kernel_rfl) (by simp) ?_
                refine do_drop (i := 6) rfl (fun K hK => ?_) AllReadyH.nil
                go_simp
                refine HV9.out.mono ?_
                rintro e w10 ⟨rfl, f10⟩
                have y0 := f10.cell x0 (fun h => h)
                have y1 := f10.cell x1 (fun h => h)
                have HC10 := Lib.hid (HK.out.keep HCD.out f10 (fun _ _ h => h))
                have HL10 := Lib.hid (HLD.out.keep f10 (fun _ _ h => h))
                have HF10 := Lib.hid (HFD.out.trans f10)
                have HS10 := Lib.hid (Nat.le_trans HSD.out f10.size)
                clear f10 hHeld
                refine hK.out _ _ ⟨y0, y1⟩ ?_
                clear hK K
                try simp only [Act.put, List.setIfInBounds_toArray, List.set_cons_zero, List.set_cons_succ]
                have hS2 := And.intro y0 y1
                refine take_drop (i := 8) (v := ?v8_1) rfl (by kernel_rfl) (by kernel_rfl) (by kernel_rfl) (fun _ _ _ h => h) (Or.inl ⟨by rfl, ?h8_1⟩) hS2 ?r8_1
                case h8_1 => (intro wS hSw; obtain ⟨s0, s1⟩ := hSw; go_simp; all_goals (with_reducible rfl))
                simp only [Act.put, List.setIfInBounds_toArray, List.set_cons_zero, List.set_cons_succ]
                refine take_drop (i := 9) (v := ?v9_1) rfl (by kernel_rfl) (by kernel_rfl) (by kernel_rfl) (fun _ _ _ h => h) (Or.inl ⟨by rfl, ?h9_1⟩) hS2 ?r9_1
                case h9_1 => (intro wS hSw; obtain ⟨s0, s1⟩ := hSw; go_simp; all_goals (with_reducible rfl))
                simp only [Act.put, List.setIfInBounds_toArray, List.set_cons_zero, List.set_cons_succ]
                refine take_drop (i := 10) (v := ?v10_1) rfl (by kernel_rfl) (by kernel_rfl) (by kernel_rfl) (fun _ _ _ h => h) (Or.inl ⟨by rfl, ?h10_1⟩) hS2 ?r10_1
                case h10_1 => (intro wS hSw; obtain ⟨s0, s1⟩ := hSw; go_simp; all_goals (with_reducible rfl))
                simp only [Act.put, List.setIfInBounds_toArray, List.set_cons_zero, List.set_cons_succ]
                refine take_drop (i := 11) (v := ?v11_1) rfl (by kernel_rfl) (by kernel_rfl) (by kernel_rfl) (fun _ _ _ h => h) (Or.inl ⟨by rfl, ?h11_1⟩) hS2 ?r11_1
                case h11_1 => (intro wS hSw; obtain ⟨s0, s1⟩ := hSw; go_simp; all_goals (with_reducible rfl))
                simp only [Act.put, List.setIfInBounds_toArray, List.set_cons_zero, List.set_cons_succ]
                refine take_drop (i := 12) (v := ?v12_1) rfl (by kernel_rfl) (by kernel_rfl) (by kernel_rfl) (fun _ _ _ h => h) (Or.inl ⟨by rfl, ?h12_1⟩) hS2 ?r12_1
                case h12_1 => (intro wS hSw; obtain ⟨s0, s1⟩ := hSw; go_simp; all_goals (with_reducible rfl))
                simp only [Act.put, List.setIfInBounds_toArray, List.set_cons_zero, List.set_cons_succ]
                refine take_drop (i := 13) (v := undef) rfl (by kernel_rfl) (by kernel_rfl) (by kernel_rfl) (fun _ _ _ h => h) (Or.inr ⟨by rfl, rfl⟩) hS2 ?_
                simp only [Act.put, List.setIfInBounds_toArray, List.set_cons_zero, List.set_cons_succ]
                refine take_drop (i := 14) (v := undef) rfl (by kernel_rfl) (by kernel_rfl) (by kernel_rfl) (fun _ _ _ h => h) (Or.inr ⟨by rfl, rfl⟩) hS2 ?_
                simp only [Act.put, List.setIfInBounds_toArray, List.set_cons_zero, List.set_cons_succ]
                refine take_drop (i := 15) (v := undef) rfl (by kernel_rfl) (by kernel_rfl) (by kernel_rfl) (fun _ _ _ h => h) (Or.inr ⟨by rfl, rfl⟩) hS2 ?_
                simp only [Act.put, List.setIfInBounds_toArray, List.set_cons_zero, List.set_cons_succ]
                refine take_drop (i := 16) (v := undef) rfl (by kernel_rfl) (by kernel_rfl) (by kernel_rfl) (fun _ _ _ h => h) (Or.inr ⟨by rfl, rfl⟩) hS2 ?_
                simp only [Act.put, List.setIfInBounds_toArray, List.set_cons_zero, List.set_cons_succ]
                refine take_drop (i := 17) (v := undef) rfl (by kernel_rfl) (by kernel_rfl) (by kernel_rfl) (fun _ _ _ h => h) (Or.inr ⟨by rfl, rfl⟩) hS2 ?_
                simp only [Act.put, List.setIfInBounds_toArray, List.set_cons_zero, List.set_cons_succ]
                refine take_drop (i := 18) (v := undef) rfl (by kernel_rfl) (by kernel_rfl) (by kernel_rfl) (fun _ _ _ h => h) (Or.inr ⟨by rfl, rfl⟩) hS2 ?_
                simp only [Act.put, List.setIfInBounds_toArray, List.set_cons_zero, List.set_cons_succ]
                refine take_drop (i := 19) (v := undef) rfl (by kernel_rfl) (by kernel_rfl) (by kernel_rfl) (fun _ _ _ h => h) (Or.inr ⟨by rfl, rfl⟩) hS2 ?_
                simp only [Act.put, List.setIfInBounds_toArray, List.set_cons_zero, List.set_cons_succ]
                refine take_drop (i := 20) (v := undef) rfl (by kernel_rfl) (by kernel_rfl) (by kernel_rfl) (fun _ _ _ h => h) (Or.inr ⟨by rfl, rfl⟩) hS2 ?_
                simp only [Act.put, List.setIfInBounds_toArray, List.set_cons_zero, List.set_cons_succ]
                refine take_drop (i := 21) (v := undef) rfl (by kernel_rfl) (by kernel_rfl) (by kernel_rfl) (fun _ _ _ h => h) (Or.inr ⟨by rfl, rfl⟩) hS2 ?_
                simp only [Act.put, List.setIfInBounds_toArray, List.set_cons_zero, List.set_cons_succ]
                refine take_drop (i := 22) (v := undef) rfl (by kernel_rfl) (by kernel_rfl) (by kernel_rfl) (fun _ _ _ h => h) (Or.inr ⟨by rfl, rfl⟩) hS2 ?_
                simp only [Act.put, List.setIfInBounds_toArray, List.set_cons_zero, List.set_cons_succ]
                refine take_drop (i := 23) (v := undef) rfl (by kernel_rfl) (by kernel_rfl) (by kernel_rfl) (fun _ _ _ h => h) (Or.inr ⟨by rfl, rfl⟩) hS2 ?_
                simp only [Act.put, List.setIfInBounds_toArray, List.set_cons_zero, List.set_cons_succ]
                refine take_drop (i := 24) (v := undef) rfl (by kernel_rfl) (by kernel_rfl) (by kernel_rfl) (fun _ _ _ h => h) (Or.inr ⟨by rfl, rfl⟩) hS2 ?_
                simp only [Act.put, List.setIfInBounds_toArray, List.set_cons_zero, List.set_cons_succ]
                refine take_drop (i := 25) (v := undef) rfl (by kernel_rfl) (by kernel_rfl) (by kernel_rfl) (fun _ _ _ h => h) (Or.inr ⟨by rfl, rfl⟩) hS2 ?_
                simp only [Act.put, List.setIfInBounds_toArray, List.set_cons_zero, List.set_cons_succ]
                refine take_drop (i := 26) (v := undef) rfl (by kernel_rfl) (by kernel_rfl) (by kernel_rfl) (fun _ _ _ h => h) (Or.inr ⟨by rfl, rfl⟩) hS2 ?_
                simp only [Act.put, List.setIfInBounds_toArray, List.set_cons_zero, List.set_cons_succ]
                refine take_drop (i := 27) (v := undef) rfl (by kernel_rfl) (by kernel_rfl) (by kernel_rfl) (fun _ _ _ h => h) (Or.inr ⟨by rfl, rfl⟩) hS2 ?_
                simp only [Act.put, List.setIfInBounds_toArray, List.set_cons_zero, List.set_cons_succ]
                refine take_drop (i := 28) (v := undef) rfl (by kernel_rfl) (by kernel_rfl) (by kernel_rfl) (fun _ _ _ h => h) (Or.inr ⟨by rfl, rfl⟩) hS2 ?_
                simp only [Act.put, List.setIfInBounds_toArray, List.set_cons_zero, List.set_cons_succ]
                refine take_drop (i := 29) (v := undef) rfl (by kernel_rfl) (by kernel_rfl) (by kernel_rfl) (fun _ _ _ h => h) (Or.inr ⟨by rfl, rfl⟩) hS2 ?_
                simp only [Act.put, List.setIfInBounds_toArray, List.set_cons_zero, List.set_cons_succ]
                refine take_drop (i := 30) (v := undef) rfl (by kernel_rfl) (by kernel_rfl) (by kernel_rfl) (fun _ _ _ h => h) (Or.inr ⟨by rfl, rfl⟩) hS2 ?_
                simp only [Act.put, List.setIfInBounds_toArray, List.set_cons_zero, List.set_cons_succ]
                refine take_drop (i := 31) (v := ?v31_1) rfl (by kernel_rfl) (by kernel_rfl) (by kernel_rfl) (fun _ _ _ h => h) (Or.inl ⟨by rfl, ?h31_1⟩) hS2 ?r31_1
                case h31_1 => (intro wS hSw; obtain ⟨s0, s1⟩ := hSw; go_simp; all_goals (with_reducible rfl))
                simp only [Act.put, List.setIfInBounds_toArray, List.set_cons_zero, List.set_cons_succ]
                refine take_drop (i := 32) (v := ?v32_1) rfl (by kernel_rfl) (by kernel_rfl) (by kernel_rfl) (fun _ _ _ h => h) (Or.inl ⟨by rfl, ?h32_1⟩) hS2 ?r32_1
                case h32_1 => (intro wS hSw; obtain ⟨s0, s1⟩ := hSw; go_simp; all_goals (with_reducible rfl))
                simp only [Act.put, List.setIfInBounds_toArray, List.set_cons_zero, List.set_cons_succ]
                refine take_drop (i := 33) (v := ?v33_1) rfl (by kernel_rfl) (by kernel_rfl) (by kernel_rfl) (fun _ _ _ h => h) (Or.inl ⟨by rfl, ?h33_1⟩) hS2 ?r33_1
                case h33_1 => (intro wS hSw; obtain ⟨s0, s1⟩ := hSw; go_simp; all_goals (with_reducible rfl))
                simp only [Act.put, List.setIfInBounds_toArray, List.set_cons_zero, List.set_cons_succ]
                refine take_drop (i := 34) (v := ?v34_1) rfl (by kernel_rfl) (by kernel_rfl) (by kernel_rfl) (fun _ _ _ h => h) (Or.inl ⟨by rfl, ?h34_1⟩) hS2 ?r34_1
                case h34_1 => (intro wS hSw; obtain ⟨s0, s1⟩ := hSw; go_simp; all_goals (with_reducible rfl))
                simp only [Act.put, List.setIfInBounds_toArray, List.set_cons_zero, List.set_cons_succ]
                refine take_drop (i := 35) (v := ?v35_1) rfl (by kernel_rfl) (by kernel_rfl) (by kernel_rfl) (fun _ _ _ h => h) (Or.inl ⟨by rfl, ?h35_1⟩) hS2 ?r35_1
                case h35_1 => (intro wS hSw; obtain ⟨s0, s1⟩ := hSw; go_simp; all_goals (with_reducible rfl))
                simp only [Act.put, List.setIfInBounds_toArray, List.set_cons_zero, List.set_cons_succ]
                refine take_drop (i := 36) (v := ?v36_1) rfl (by kernel_rfl) (by kernel_rfl) (by kernel_rfl) (fun _ _ _ h => h) (Or.inl ⟨by rfl, ?h36_1⟩) hS2 ?r36_1
                case h36_1 => (intro wS hSw; obtain ⟨s0, s1⟩ := hSw; go_simp; all_goals (with_reducible rfl))
                simp only [Act.put, List.setIfInBounds_toArray, List.set_cons_zero, List.set_cons_succ]
                refine take_drop (i := 37) (v := ?v37_1) rfl (by kernel_rfl) (by kernel_rfl) (by kernel_rfl) (fun _ _ _ h => h) (Or.inl ⟨by rfl, ?h37_1⟩) hS2 ?r37_1
                case h37_1 => (intro wS hSw; obtain ⟨s0, s1⟩ := hSw; go_simp; all_goals (with_reducible rfl))
                simp only [Act.put, List.setIfInBounds_toArray, List.set_cons_zero, List.set_cons_succ]
                refine take_drop (i := 38) (v := ?v38_1) rfl (by kernel_rfl) (by kernel_rfl) (by kernel_rfl) (fun _ _ _ h => h) (Or.inl ⟨by rfl, ?h38_1⟩) hS2 ?r38_1
                case h38_1 => (intro wS hSw; obtain ⟨s0, s1⟩ := hSw; go_simp; all_goals (with_reducible rfl))
                simp only [Act.put, List.setIfInBounds_toArray, List.set_cons_zero, List.set_cons_succ]
                refine take_drop (i := 39) (v := ?v39_1) rfl (by kernel_rfl) (by kernel_rfl) (by kernel_rfl) (fun _ _ _ h => h) (Or.inl ⟨by rfl, ?h39_1⟩) hS2 ?r39_1
                case h39_1 => (intro wS hSw; obtain ⟨s0, s1⟩ := hSw; go_simp; all_goals (with_reducible rfl))
                simp only [Act.put, List.setIfInBounds_toArray, List.set_cons_zero, List.set_cons_succ]
                refine take_drop (i := 40) (v := ?v40_1) rfl (by kernel_rfl) (by kernel_rfl) (by kernel_rfl) (fun _ _ _ h => h) (Or.inl ⟨by rfl, ?h40_1⟩) hS2 ?r40_1
                case h40_1 => (intro wS hSw; obtain ⟨s0, s1⟩ := hSw; go_simp; all_goals (with_reducible rfl))
                simp only [Act.put, List.setIfInBounds_toArray, List.set_cons_zero, List.set_cons_succ]
                refine take_drop (i := 41) (v := ?v41_1) rfl (by kernel_rfl) (by kernel_rfl) (by kernel_rfl) (fun _ _ _ h => h) (Or.inl ⟨by rfl, ?h41_1⟩) hS2 ?r41_1
                case h41_1 => (intro wS hSw; obtain ⟨s0, s1⟩ := hSw; go_simp; all_goals (with_reducible rfl))
                simp only [Act.put, List.setIfInBounds_toArray, List.set_cons_zero, List.set_cons_succ]
                refine wpAnyH_done (by kernel_rfl) ?_ _

                go_wp2_with fail
                go_roundw
                case rel => exact ⟨j + 1, -1, X8, Y8, by simp, by omega, by first | rfl | simp | (congr 1; omega), by omega, HC10.out, HL10.out, HY8.out, HX8.out, HS10.out, HF10.out⟩
                case measure => simp [intOf]; omega
              · have hn : 0 < m := by omega
                have g1 : decide ((m : Int) ≤ 0) = false := by first | (rw [decide_eq_true_eq]; omega) | (rw [decide_eq_false_iff_not]; omega)
                go_wp2_with fail
                refine HMV.out.mono ?_
                rintro e w8 ⟨rfl, X8, Y8, hC8, hX8, hY8, f8⟩
                rw [show firstI L.length = 0 by unfold firstI; rw [HML.out, if_neg hz]] at hC8
                rw [show firstI L.length = 0 by unfold firstI; rw [HML.out, if_neg hz]]
                rw [show decide ((0 : Int) ≤ 0) = true by first | (rw [decide_eq_true_eq]; omega) | (rw [decide_eq_false_iff_not]; omega)]
                have HC8 := Lib.hid hC8
                have HL8 := Lib.hid (HL7.out.keep f8 (fun k hk hy => HXr.out k hy hk))
                have HF8 : Hid (Fr No W w8) := Lib.hid (HF7.out.then_ f8 fun k hk hy => absurd (HYr.out k hy) (by omega))
                have HY8 : Hid (∀ k, Y8 k → W.heap.size ≤ k) := Lib.hid fun k hk => (hY8 k hk).elim (HYr.out k) (fun h => Nat.le_trans HF7.out.size h.1)
                have HX8 : Hid (∀ k, Y8 k → ¬ XL k) := Lib.hid fun k hk h => (hY8 k hk).elim (fun hy => HXr.out k hy h) (fun hn => by
                  have h1 := HXB.out k h
                  have h2 := HSZ.out
                  have h3 := HG7.out.size
                  omega)
                have HS8 : Hid (w6.heap.size ≤ w8.heap.size) := Lib.hid (Nat.le_trans (Nat.le_trans HSZ.out HG7.out.size) f8.size)
                have e3 := f8.cell e1 (fun hy => HOB.out _ hy rfl)
                clear hC8 hX8 hY8 f8 e0 e1
                have HIT := HK.out.item HC8.out
                rw [show itemI L (0) = L.getD 0 p20 by unfold itemI; rw [if_pos (by omega)]; congr 1] at HIT
                have HCEL : Hid (∀ w', Fr No w8 w' → ∃ g p, oa = some ⟨g, p, none⟩ ∧ w'.cell? ⟨g, p + 0 * 2, none⟩ = some (.int .i64 (L.getD 0 p20).1) ∧ w'.cell? ⟨g, p + 0 * 2 + 1, none⟩ = some (.int .i64 (L.getD 0 p20).2)) := Lib.hid fun w' f => by
                  obtain ⟨g, p, _, hg, hc⟩ := HL8.out (by rw [HML.out]; omega)
                  exact ⟨g, p, hg, f.cell (hc 0 (by rw [HML.out]; exact hn)).1 (fun h => h), f.cell (hc 0 (by rw [HML.out]; exact hn)).2 (fun h => h)⟩
                generalize (L.getD 0 p20).1 = xk at *
                generalize (L.getD 0 p20).2 = xv at *
                have HIT := Lib.hid HIT
                go_wp2_with fail
                refine HIT.out.mono ?_
                rintro e w9 ⟨rfl, f9⟩
                have HC9 := HK.out.keep HC8.out f9 (fun _ _ h => h)
                have HL9 := HL8.out.keep f9 (fun _ _ h => h)
                have HF9 := HF8.out.trans f9
                have fB := (Fr.refl No w9).alloc (.cells #[.int .i64 xk, .int .i64 xv] 49)
                have x0 : (w9.alloc (.cells #[.int .i64 xk, .int .i64 xv] 49)).drew.cell? ⟨w9.heap.size, 0, none⟩ = some (.int .i64 xk) := (At.new w9 49 #[.int .i64 xk, .int .i64 xv]).cell 0
                have x1 : (w9.alloc (.cells #[.int .i64 xk, .int .i64 xv] 49)).drew.cell? ⟨w9.heap.size, 1, none⟩ = some (.int .i64 xv) := (At.new w9 49 #[.int .i64 xk, .int .i64 xv]).cell 1
                have HCD := Lib.hid (HK.out.keep HC9 fB.drew (fun _ _ h => h))
                have HLD := Lib.hid (HL9.keep fB.drew (fun _ _ h => h))
                have HFD := Lib.hid (HF9.trans fB.drew)
                have HSD := Lib.hid (Nat.le_trans HS8.out (f9.trans fB.drew).size)
                have HV9 := HK.out.valid HCD.out
                rw [show decide ((0 : Int) ≤ 0) = true by first | (rw [decide_eq_true_eq]; omega) | (rw [decide_eq_false_iff_not]; omega)] at HV9
                have HV9 := Lib.hid HV9
                have bn0 : (0 : Int) ≤ 0 := by omega
                have bn1 : 0 < (m : Int) := by omega
                obtain ⟨lg, lp, rfl, l0, l1⟩ := HCEL.out _ (f9.trans fB.drew)
                have r1 : (xk == xk) = true := by simp
                have r2 : (xv == xv) = true := by simp
                have r3 : decide ((0 : Int) ≤ 0) = true := by first | (rw [decide_eq_true_eq]; omega) | (rw [decide_eq_false_iff_not]; omega)
                clear f9 HC9 HL9 HF9 fB
                try clear e3
                try clear e0 e1
                go_wp2_with fail
                refine wp_region_held_drew (S := fun w' => w'.cell? ⟨w9.heap.size, 0, none⟩ = some (.int .i64 xk) ∧ w'.cell? ⟨w9.heap.size, 1, none⟩ = some (.int .i64 xv) ∧ w'.cell? ⟨lg, lp, none⟩ = some (.int .i64 xk) ∧ w'.cell? ⟨lg, lp + 1, none⟩ = some (.int .i64 xv)) (by kernel_rfl) ⟨x0, x1, l0, l1⟩ (fun hHeld => ?_)
                refine take_drop (i := 0) (v := ?v0_2) rfl (by kernel_rfl) (by kernel_rfl) (by kernel_rfl) (fun _ _ _ h => h) (Or.inl ⟨by rfl, ?h0_2⟩) hHeld ?r0_2
                case h0_2 => (intro wS hSw; obtain ⟨s0, s1, s2, s3⟩ := hSw; go_simp; all_goals (with_reducible rfl))
                simp only [Act.put, List.setIfInBounds_toArray, List.set_cons_zero, List.set_cons_succ]
                refine take_drop (i := 1) (v := ?v1_2) rfl (by kernel_rfl) (by kernel_rfl) (by kernel_rfl) (fun _ _ _ h => h) (Or.inl ⟨by rfl, ?h1_2⟩) hHeld ?r1_2
                case h1_2 => (intro wS hSw; obtain ⟨s0, s1, s2, s3⟩ := hSw; go_simp; all_goals (with_reducible rfl))
                simp only [Act.put, List.setIfInBounds_toArray, List.set_cons_zero, List.set_cons_succ]
                refine take_drop (i := 2) (v := ?v2_2) rfl (by kernel_rfl) (by kernel_rfl) (by kernel_rfl) (fun _ _ _ h => h) (Or.inl ⟨by rfl, ?h2_2⟩) hHeld ?r2_2
                case h2_2 => (intro wS hSw; obtain ⟨s0, s1, s2, s3⟩ := hSw; go_simp; all_goals (with_reducible rfl))
                simp only [Act.put, List.setIfInBounds_toArray, List.set_cons_zero, List.set_cons_succ]
                refine take_drop (i := 3) (v := ?v3_2) rfl (by kernel_rfl) (by kernel_rfl) (by kernel_rfl) (fun _ _ _ h => h) (Or.inl ⟨by rfl, ?h3_2⟩) hHeld ?r3_2
                case h3_2 => (intro wS hSw; obtain ⟨s0, s1, s2, s3⟩ := hSw; go_simp; all_goals (with_reducible rfl))
                simp only [Act.put, List.setIfInBounds_toArray, List.set_cons_zero, List.set_cons_succ]
                refine take_drop (i := 4) (v := ?v4_2) rfl (by kernel_rfl) (by kernel_rfl) (by kernel_rfl) (fun _ _ _ h => h) (Or.inl ⟨by rfl, ?h4_2⟩) hHeld ?r4_2
                case h4_2 => (intro wS hSw; obtain ⟨s0, s1, s2, s3⟩ := hSw; go_simp; all_goals (with_reducible rfl))
                simp only [Act.put, List.setIfInBounds_toArray, List.set_cons_zero, List.set_cons_succ]
                refine take_drop (i := 5) (v := ?v5_2) rfl (by kernel_rfl) (by kernel_rfl) (by kernel_rfl) (fun _ _ _ h => h) (Or.inl ⟨by rfl, ?h5_2⟩) hHeld ?r5_2
                case h5_2 => (intro wS hSw; obtain ⟨s0, s1, s2, s3⟩ := hSw; go_simp; all_goals (with_reducible rfl))
                simp only [Act.put, List.setIfInBounds_toArray, List.set_cons_zero, List.set_cons_succ]
                refine take_drop (i := 7) (v := ?v7_2) rfl (by kernel_rfl) (by kernel_rfl) (by kernel_rfl) (fun _ _ _ h => h) (Or.inl ⟨by rfl, ?h7_2⟩) hHeld ?r7_2
                case h7_2 => (intro wS hSw; obtain ⟨s0, s1, s2, s3⟩ := hSw; go_simp; all_goals (with_reducible rfl))
                simp only [Act.put, List.setIfInBounds_toArray, List.set_cons_zero, List.set_cons_succ]
                refine wpAnyH_ready (rs := [6]) (by kernel_rfl) (by simp) ?_
                refine do_drop (i := 6) rfl (fun K hK => ?_) AllReadyH.nil
                go_simp
                refine HV9.out.mono ?_
                rintro e w10 ⟨rfl, f10⟩
                have y0 := f10.cell x0 (fun h => h)
                have y1 := f10.cell x1 (fun h => h)
                have y2 := f10.cell l0 (fun h => h)
                have y3 := f10.cell l1 (fun h => h)
                have HC10 := Lib.hid (HK.out.keep HCD.out f10 (fun _ _ h => h))
                have HL10 := Lib.hid (HLD.out.keep f10 (fun _ _ h => h))
                have HF10 := Lib.hid (HFD.out.trans f10)
                have HS10 := Lib.hid (Nat.le_trans HSD.out f10.size)
                clear f10 hHeld
                refine hK.out _ _ ⟨y0, y1, y2, y3⟩ ?_
                clear hK K
                try simp only [Act.put, List.setIfInBounds_toArray, List.set_cons_zero, List.set_cons_succ]
                have hS2 := And.intro y0 (And.intro y1 (And.intro y2 y3))
                refine take_drop (i := 8) (v := ?v8_2) rfl (by kernel_rfl) (by kernel_rfl) (by kernel_rfl) (fun _ _ _ h => h) (Or.inl ⟨by rfl, ?h8_2⟩) hS2 ?r8_2
                case h8_2 => (intro wS hSw; obtain ⟨s0, s1, s2, s3⟩ := hSw; go_simp; all_goals (with_reducible rfl))
                simp only [Act.put, List.setIfInBounds_toArray, List.set_cons_zero, List.set_cons_succ]
                refine take_drop (i := 9) (v := ?v9_2) rfl (by kernel_rfl) (by kernel_rfl) (by kernel_rfl) (fun _ _ _ h => h) (Or.inl ⟨by rfl, ?h9_2⟩) hS2 ?r9_2
                case h9_2 => (intro wS hSw; obtain ⟨s0, s1, s2, s3⟩ := hSw; go_simp; all_goals (with_reducible rfl))
                simp only [Act.put, List.setIfInBounds_toArray, List.set_cons_zero, List.set_cons_succ]
                refine take_drop (i := 10) (v := ?v10_2) rfl (by kernel_rfl) (by kernel_rfl) (by kernel_rfl) (fun _ _ _ h => h) (Or.inl ⟨by rfl, ?h10_2⟩) hS2 ?r10_2
                case h10_2 => (intro wS hSw; obtain ⟨s0, s1, s2, s3⟩ := hSw; go_simp; all_goals (with_reducible rfl))
                simp only [Act.put, List.setIfInBounds_toArray, List.set_cons_zero, List.set_cons_succ]
                refine take_drop (i := 11) (v := ?v11_2) rfl (by kernel_rfl) (by kernel_rfl) (by kernel_rfl) (fun _ _ _ h => h) (Or.inl ⟨by rfl, ?h11_2⟩) hS2 ?r11_2
                case h11_2 => (intro wS hSw; obtain ⟨s0, s1, s2, s3⟩ := hSw; go_simp; all_goals (with_reducible rfl))
                simp only [Act.put, List.setIfInBounds_toArray, List.set_cons_zero, List.set_cons_succ]
                refine take_drop (i := 12) (v := ?v12_2) rfl (by kernel_rfl) (by kernel_rfl) (by kernel_rfl) (fun _ _ _ h => h) (Or.inl ⟨by rfl, ?h12_2⟩) hS2 ?r12_2
                case h12_2 => (intro wS hSw; obtain ⟨s0, s1, s2, s3⟩ := hSw; go_simp; all_goals (with_reducible rfl))
                simp only [Act.put, List.setIfInBounds_toArray, List.set_cons_zero, List.set_cons_succ]
                refine take_drop (i := 13) (v := ?v13_2) rfl (by kernel_rfl) (by kernel_rfl) (by kernel_rfl) (fun _ _ _ h => h) (Or.inl ⟨by rfl, ?h13_2⟩) hS2 ?r13_2
                case h13_2 => (intro wS hSw; obtain ⟨s0, s1, s2, s3⟩ := hSw; go_simp; all_goals (with_reducible rfl))
                simp only [Act.put, List.setIfInBounds_toArray, List.set_cons_zero, List.set_cons_succ]
                refine take_drop (i := 14) (v := ?v14_2) rfl (by kernel_rfl) (by kernel_rfl) (by kernel_rfl) (fun _ _ _ h => h) (Or.inl ⟨by rfl, ?h14_2⟩) hS2 ?r14_2
                case h14_2 => (intro wS hSw; obtain ⟨s0, s1, s2, s3⟩ := hSw; go_simp; all_goals (with_reducible rfl))
                simp only [Act.put, List.setIfInBounds_toArray, List.set_cons_zero, List.set_cons_succ]
                refine take_drop (i := 15) (v := ?v15_2) rfl (by kernel_rfl) (by kernel_rfl) (by kernel_rfl) (fun _ _ _ h => h) (Or.inl ⟨by rfl, ?h15_2⟩) hS2 ?r15_2
                case h15_2 => (intro wS hSw; obtain ⟨s0, s1, s2, s3⟩ := hSw; go_simp; all_goals (with_reducible rfl))
                simp only [Act.put, List.setIfInBounds_toArray, List.set_cons_zero, List.set_cons_succ]
                refine take_drop (i := 16) (v := ?v16_2) rfl (by kernel_rfl) (by kernel_rfl) (by kernel_rfl) (fun _ _ _ h => h) (Or.inl ⟨by rfl, ?h16_2⟩) hS2 ?r16_2
                case h16_2 => (intro wS hSw; obtain ⟨s0, s1, s2, s3⟩ := hSw; go_simp; all_goals (with_reducible rfl))
                simp only [Act.put, List.setIfInBounds_toArray, List.set_cons_zero, List.set_cons_succ]
                refine take_drop (i := 17) (v := ?v17_2) rfl (by kernel_rfl) (by kernel_rfl) (by kernel_rfl) (fun _ _ _ h => h) (Or.inl ⟨by rfl, ?h17_2⟩) hS2 ?r17_2
                case h17_2 => (intro wS hSw; obtain ⟨s0, s1, s2, s3⟩ := hSw; go_simp; all_goals (with_reducible rfl))
                simp only [Act.put, List.setIfInBounds_toArray, List.set_cons_zero, List.set_cons_succ]
                refine take_drop (i := 18) (v := ?v18_2) rfl (by kernel_rfl) (by kernel_rfl) (by kernel_rfl) (fun _ _ _ h => h) (Or.inl ⟨by rfl, ?h18_2⟩) hS2 ?r18_2
                case h18_2 => (intro wS hSw; obtain ⟨s0, s1, s2, s3⟩ := hSw; go_simp; all_goals (with_reducible rfl))
                simp only [Act.put, List.setIfInBounds_toArray, List.set_cons_zero, List.set_cons_succ]
                refine take_drop (i := 19) (v := ?v19_2) rfl (by kernel_rfl) (by kernel_rfl) (by kernel_rfl) (fun _ _ _ h => h) (Or.inl ⟨by rfl, ?h19_2⟩) hS2 ?r19_2
                case h19_2 => (intro wS hSw; obtain ⟨s0, s1, s2, s3⟩ := hSw; go_simp; all_goals (with_reducible rfl))
                simp only [Act.put, List.setIfInBounds_toArray, List.set_cons_zero, List.set_cons_succ]
                refine take_drop (i := 20) (v := ?v20_2) rfl (by kernel_rfl) (by kernel_rfl) (by kernel_rfl) (fun _ _ _ h => h) (Or.inl ⟨by rfl, ?h20_2⟩) hS2 ?r20_2
                case h20_2 => (intro wS hSw; obtain ⟨s0, s1, s2, s3⟩ := hSw; go_simp; all_goals (with_reducible rfl))
                simp only [Act.put, List.setIfInBounds_toArray, List.set_cons_zero, List.set_cons_succ]
                refine take_drop (i := 21) (v := ?v21_2) rfl (by kernel_rfl) (by kernel_rfl) (by kernel_rfl) (fun _ _ _ h => h) (Or.inl ⟨by rfl, ?h21_2⟩) hS2 ?r21_2
                case h21_2 => (intro wS hSw; obtain ⟨s0, s1, s2, s3⟩ := hSw; go_simp; all_goals (with_reducible rfl))
                simp only [Act.put, List.setIfInBounds_toArray, List.set_cons_zero, List.set_cons_succ]
                refine take_drop (i := 22) (v := ?v22_2) rfl (by kernel_rfl) (by kernel_rfl) (by kernel_rfl) (fun _ _ _ h => h) (Or.inl ⟨by rfl, ?h22_2⟩) hS2 ?r22_2
                case h22_2 => (intro wS hSw; obtain ⟨s0, s1, s2, s3⟩ := hSw; go_simp; all_goals (with_reducible rfl))
                simp only [Act.put, List.setIfInBounds_toArray, List.set_cons_zero, List.set_cons_succ]
                refine take_drop (i := 23) (v := ?v23_2) rfl (by kernel_rfl) (by kernel_rfl) (by kernel_rfl) (fun _ _ _ h => h) (Or.inl ⟨by rfl, ?h23_2⟩) hS2 ?r23_2
                case h23_2 => (intro wS hSw; obtain ⟨s0, s1, s2, s3⟩ := hSw; go_simp; all_goals (with_reducible rfl))
                simp only [Act.put, List.setIfInBounds_toArray, List.set_cons_zero, List.set_cons_succ]
                refine take_drop (i := 24) (v := ?v24_2) rfl (by kernel_rfl) (by kernel_rfl) (by kernel_rfl) (fun _ _ _ h => h) (Or.inl ⟨by rfl, ?h24_2⟩) hS2 ?r24_2
                case h24_2 => (intro wS hSw; obtain ⟨s0, s1, s2, s3⟩ := hSw; go_simp; all_goals (with_reducible rfl))
                simp only [Act.put, List.setIfInBounds_toArray, List.set_cons_zero, List.set_cons_succ]
                refine take_drop (i := 25) (v := ?v25_2) rfl (by kernel_rfl) (by kernel_rfl) (by kernel_rfl) (fun _ _ _ h => h) (Or.inl ⟨by rfl, ?h25_2⟩) hS2 ?r25_2
                case h25_2 => (intro wS hSw; obtain ⟨s0, s1, s2, s3⟩ := hSw; go_simp; all_goals (with_reducible rfl))
                simp only [Act.put, List.setIfInBounds_toArray, List.set_cons_zero, List.set_cons_succ]
                refine take_drop (i := 26) (v := ?v26_2) rfl (by kernel_rfl) (by kernel_rfl) (by kernel_rfl) (fun _ _ _ h => h) (Or.inl ⟨by rfl, ?h26_2⟩) hS2 ?r26_2
                case h26_2 => (intro wS hSw; obtain ⟨s0, s1, s2, s3⟩ := hSw; go_simp; all_goals (with_reducible rfl))
                simp only [Act.put, List.setIfInBounds_toArray, List.set_cons_zero, List.set_cons_succ]
                refine take_drop (i := 27) (v := ?v27_2) rfl (by kernel_rfl) (by kernel_rfl) (by kernel_rfl) (fun _ _ _ h => h) (Or.inl ⟨by rfl, ?h27_2⟩) hS2 ?r27_2
                case h27_2 => (intro wS hSw; obtain ⟨s0, s1, s2, s3⟩ := hSw; go_simp; all_goals (with_reducible rfl))
                simp only [Act.put, List.setIfInBounds_toArray, List.set_cons_zero, List.set_cons_succ]
                refine take_drop (i := 28) (v := ?v28_2) rfl (by kernel_rfl) (by kernel_rfl) (by kernel_rfl) (fun _ _ _ h => h) (Or.inl ⟨by rfl, ?h28_2⟩) hS2 ?r28_2
                case h28_2 => (intro wS hSw; obtain ⟨s0, s1, s2, s3⟩ := hSw; go_simp; all_goals (with_reducible rfl))
                simp only [Act.put, List.setIfInBounds_toArray, List.set_cons_zero, List.set_cons_succ]
                refine take_drop (i := 29) (v := ?v29_2) rfl (by kernel_rfl) (by kernel_rfl) (by kernel_rfl) (fun _ _ _ h => h) (Or.inl ⟨by rfl, ?h29_2⟩) hS2 ?r29_2
                case h29_2 => (intro wS hSw; obtain ⟨s0, s1, s2, s3⟩ := hSw; go_simp; all_goals (with_reducible rfl))
                simp only [Act.put, List.setIfInBounds_toArray, List.set_cons_zero, List.set_cons_succ]
                refine take_drop (i := 30) (v := ?v30_2) rfl (by kernel_rfl) (by kernel_rfl) (by kernel_rfl) (fun _ _ _ h => h) (Or.inl ⟨by rfl, ?h30_2⟩) hS2 ?r30_2
                case h30_2 => (intro wS hSw; obtain ⟨s0, s1, s2, s3⟩ := hSw; go_simp; all_goals (with_reducible rfl))
                simp only [Act.put, List.setIfInBounds_toArray, List.set_cons_zero, List.set_cons_succ]
                refine take_drop (i := 31) (v := ?v31_2) rfl (by kernel_rfl) (by kernel_rfl) (by kernel_rfl) (fun _ _ _ h => h) (Or.inl ⟨by rfl, ?h31_2⟩) hS2 ?r31_2
                case h31_2 => (intro wS hSw; obtain ⟨s0, s1, s2, s3⟩ := hSw; go_simp; all_goals (with_reducible rfl))
                simp only [Act.put, List.setIfInBounds_toArray, List.set_cons_zero, List.set_cons_succ]
                refine take_drop (i := 32) (v := ?v32_2) rfl (by kernel_rfl) (by kernel_rfl) (by kernel_rfl) (fun _ _ _ h => h) (Or.inl ⟨by rfl, ?h32_2⟩) hS2 ?r32_2
                case h32_2 => (intro wS hSw; obtain ⟨s0, s1, s2, s3⟩ := hSw; go_simp; all_goals (with_reducible rfl))
                simp only [Act.put, List.setIfInBounds_toArray, List.set_cons_zero, List.set_cons_succ]
                refine take_drop (i := 33) (v := ?v33_2) rfl (by kernel_rfl) (by kernel_rfl) (by kernel_rfl) (fun _ _ _ h => h) (Or.inl ⟨by rfl, ?h33_2⟩) hS2 ?r33_2
                case h33_2 => (intro wS hSw; obtain ⟨s0, s1, s2, s3⟩ := hSw; go_simp; all_goals (with_reducible rfl))
                simp only [Act.put, List.setIfInBounds_toArray, List.set_cons_zero, List.set_cons_succ]
                refine take_drop (i := 34) (v := ?v34_2) rfl (by kernel_rfl) (by kernel_rfl) (by kernel_rfl) (fun _ _ _ h => h) (Or.inl ⟨by rfl, ?h34_2⟩) hS2 ?r34_2
                case h34_2 => (intro wS hSw; obtain ⟨s0, s1, s2, s3⟩ := hSw; go_simp; all_goals (with_reducible rfl))
                simp only [Act.put, List.setIfInBounds_toArray, List.set_cons_zero, List.set_cons_succ]
                refine take_drop (i := 35) (v := ?v35_2) rfl (by kernel_rfl) (by kernel_rfl) (by kernel_rfl) (fun _ _ _ h => h) (Or.inl ⟨by rfl, ?h35_2⟩) hS2 ?r35_2
                case h35_2 => (intro wS hSw; obtain ⟨s0, s1, s2, s3⟩ := hSw; go_simp; all_goals (with_reducible rfl))
                simp only [Act.put, List.setIfInBounds_toArray, List.set_cons_zero, List.set_cons_succ]
                refine take_drop (i := 36) (v := ?v36_2) rfl (by kernel_rfl) (by kernel_rfl) (by kernel_rfl) (fun _ _ _ h => h) (Or.inl ⟨by rfl, ?h36_2⟩) hS2 ?r36_2
                case h36_2 => (intro wS hSw; obtain ⟨s0, s1, s2, s3⟩ := hSw; go_simp; all_goals (with_reducible rfl))
                simp only [Act.put, List.setIfInBounds_toArray, List.set_cons_zero, List.set_cons_succ]
                refine take_drop (i := 37) (v := undef) rfl (by kernel_rfl) (by kernel_rfl) (by kernel_rfl) (fun _ _ _ h => h) (Or.inr ⟨by rfl, rfl⟩) hS2 ?_
                simp only [Act.put, List.setIfInBounds_toArray, List.set_cons_zero, List.set_cons_succ]
                refine take_drop (i := 38) (v := undef) rfl (by kernel_rfl) (by kernel_rfl) (by kernel_rfl) (fun _ _ _ h => h) (Or.inr ⟨by rfl, rfl⟩) hS2 ?_
                simp only [Act.put, List.setIfInBounds_toArray, List.set_cons_zero, List.set_cons_succ]
                refine take_drop (i := 39) (v := undef) rfl (by kernel_rfl) (by kernel_rfl) (by kernel_rfl) (fun _ _ _ h => h) (Or.inr ⟨by rfl, rfl⟩) hS2 ?_
                simp only [Act.put, List.setIfInBounds_toArray, List.set_cons_zero, List.set_cons_succ]
                refine take_drop (i := 40) (v := ?v40_2) rfl (by kernel_rfl) (by kernel_rfl) (by kernel_rfl) (fun _ _ _ h => h) (Or.inl ⟨by rfl, ?h40_2⟩) hS2 ?r40_2
                case h40_2 => (intro wS hSw; obtain ⟨s0, s1, s2, s3⟩ := hSw; go_simp; all_goals (with_reducible rfl))
                simp only [Act.put, List.setIfInBounds_toArray, List.set_cons_zero, List.set_cons_succ]
                refine take_drop (i := 41) (v := ?v41_2) rfl (by kernel_rfl) (by kernel_rfl) (by kernel_rfl) (fun _ _ _ h => h) (Or.inl ⟨by rfl, ?h41_2⟩) hS2 ?r41_2
                case h41_2 => (intro wS hSw; obtain ⟨s0, s1, s2, s3⟩ := hSw; go_simp; all_goals (with_reducible rfl))
                simp only [Act.put, List.setIfInBounds_toArray, List.set_cons_zero, List.set_cons_succ]
                refine wpAnyH_done (by kernel_rfl) ?_ _

                go_wp2_with fail
                go_roundw
                case rel => exact ⟨j + 1, 0, X8, Y8, by simp, by omega, by first | rfl | simp | (congr 1; omega), by omega, HC10.out, HL10.out, HY8.out, HX8.out, HS10.out, HF10.out⟩
                case measure => simp [intOf]; omega
          by_cases hk2 : kd = 2
          · as_aux_lemma =>
              have hkd : kd = 2 := hk2
              subst hkd
              clear hk1 hk2
              have HMV := Lib.hid (HK.out.last HC7.out)
              cases m with
              | zero =>
                go_wp2_with fail
                refine HMV.out.mono ?_
                rintro e w8 ⟨rfl, X8, Y8, hC8, hX8, hY8, f8⟩
                rw [show ((L.length : Int) - 1) = -1 by rw [HML.out]; rfl] at hC8
                rw [show ((L.length : Int) - 1) = -1 by rw [HML.out]; rfl]
                rw [show decide ((0 : Int) ≤ -1) = false by first | (rw [decide_eq_true_eq]; omega) | (rw [decide_eq_false_iff_not]; omega)]
                have HC8 := Lib.hid hC8
                have HL8 := Lib.hid (HL7.out.keep f8 (fun k hk hy => HXr.out k hy hk))
                have HF8 : Hid (Fr No W w8) := Lib.hid (HF7.out.then_ f8 fun k hk hy => absurd (HYr.out k hy) (by omega))
                have HY8 : Hid (∀ k, Y8 k → W.heap.size ≤ k) := Lib.hid fun k hk => (hY8 k hk).elim (HYr.out k) (fun h => Nat.le_trans HF7.out.size h.1)
                have HX8 : Hid (∀ k, Y8 k → ¬ XL k) := Lib.hid fun k hk h => (hY8 k hk).elim (fun hy => HXr.out k hy h) (fun hn => by
                  have h1 := HXB.out k h
                  have h2 := HSZ.out
                  have h3 := HG7.out.size
                  omega)
                have HS8 : Hid (w6.heap.size ≤ w8.heap.size) := Lib.hid (Nat.le_trans (Nat.le_trans HSZ.out HG7.out.size) f8.size)
                have e3 := f8.cell e1 (fun hy => HOB.out _ hy rfl)
                clear hC8 hX8 hY8 f8 e0 e1
                have HIT := HK.out.item HC8.out
                rw [show itemI L (-1) = (0, 0) by unfold itemI; rw [if_neg (by omega)]] at HIT
                have HIT := Lib.hid HIT
                go_wp2_with fail
                refine HIT.out.mono ?_
                rintro e w9 ⟨rfl, f9⟩
                have HC9 := HK.out.keep HC8.out f9 (fun _ _ h => h)
                have HL9 := HL8.out.keep f9 (fun _ _ h => h)
                have HF9 := HF8.out.trans f9
                have fB := (Fr.refl No w9).alloc (.cells #[.int .i64 0, .int .i64 0] 49)
                have x0 : (w9.alloc (.cells #[.int .i64 0, .int .i64 0] 49)).drew.cell? ⟨w9.heap.size, 0, none⟩ = some (.int .i64 0) := (At.new w9 49 #[.int .i64 0, .int .i64 0]).cell 0
                have x1 : (w9.alloc (.cells #[.int .i64 0, .int .i64 0] 49)).drew.cell? ⟨w9.heap.size, 1, none⟩ = some (.int .i64 0) := (At.new w9 49 #[.int .i64 0, .int .i64 0]).cell 1
                have HCD := Lib.hid (HK.out.keep HC9 fB.drew (fun _ _ h => h))
                have HLD := Lib.hid (HL9.keep fB.drew (fun _ _ h => h))
                have HFD := Lib.hid (HF9.trans fB.drew)
                have HSD := Lib.hid (Nat.le_trans HS8.out (f9.trans fB.drew).size)
                have HV9 := HK.out.valid HCD.out
                rw [show decide ((0 : Int) ≤ -1) = false by first | (rw [decide_eq_true_eq]; omega) | (rw [decide_eq_false_iff_not]; omega)] at HV9
                have HV9 := Lib.hid HV9
                have r3 : decide ((0 : Int) ≤ -1) = false := by first | (rw [decide_eq_true_eq]; omega) | (rw [decide_eq_false_iff_not]; omega)
                clear f9 HC9 HL9 HF9 fB
                try clear e3
                try clear e0 e1
                go_wp2_with fail
                refine wp_region_held_drew (S := fun w' => w'.cell? ⟨w9.heap.size, 0, none⟩ = some (.int .i64 0) ∧ w'.cell? ⟨w9.heap.size, 1, none⟩ = some (.int .i64 0)) (by kernel_rfl) ⟨x0, x1⟩ (fun hHeld => ?_)
                refine take_drop (i := 0) (v := ?v0_3) rfl (by kernel_rfl) (by kernel_rfl) (by kernel_rfl) (fun _ _ _ h => h) (Or.inl ⟨by rfl, ?h0_3⟩) hHeld ?r0_3
                case h0_3 => (intro wS hSw; obtain ⟨s0, s1⟩ := hSw; go_simp; all_goals (with_reducible rfl))
                simp only [Act.put, List.setIfInBounds_toArray, List.set_cons_zero, List.set_cons_succ]
                refine take_drop (i := 1) (v := ?v1_3) rfl (by kernel_rfl) (by kernel_rfl) (by kernel_rfl) (fun _ _ _ h => h) (Or.inl ⟨by rfl, ?h1_3⟩) hHeld ?r1_3
                case h1_3 => (intro wS hSw; obtain ⟨s0, s1⟩ := hSw; go_simp; all_goals (with_reducible rfl))
                simp only [Act.put, List.setIfInBounds_toArray, List.set_cons_zero, List.set_cons_succ]
                refine take_drop (i := 2) (v := ?v2_3) rfl (by kernel_rfl) (by kernel_rfl) (by kernel_rfl) (fun _ _ _ h => h) (Or.inl ⟨by rfl, ?h2_3⟩) hHeld ?r2_3
                case h2_3 => (intro wS hSw; obtain ⟨s0, s1⟩ := hSw; go_simp; all_goals (with_reducible rfl))
                simp only [Act.put, List.setIfInBounds_toArray, List.set_cons_zero, List.set_cons_succ]
                refine take_drop (i := 3) (v := ?v3_3) rfl (by kernel_rfl) (by kernel_rfl) (by kernel_rfl) (fun _ _ _ h => h) (Or.inl ⟨by rfl, ?h3_3⟩) hHeld ?r3_3
                case h3_3 => (intro wS hSw; obtain ⟨s0, s1⟩ := hSw; go_simp; all_goals (with_reducible rfl))
                simp only [Act.put, List.setIfInBounds_toArray, List.set_cons_zero, List.set_cons_succ]
                refine take_drop (i := 4) (v := ?v4_3) rfl (by kernel_rfl) (by kernel_rfl) (by kernel_rfl) (fun _ _ _ h => h) (Or.inl ⟨by rfl, ?h4_3⟩) hHeld ?r4_3
                case h4_3 => (intro wS hSw; obtain ⟨s0, s1⟩ := hSw; go_simp; all_goals (with_reducible rfl))
                simp only [Act.put, List.setIfInBounds_toArray, List.set_cons_zero, List.set_cons_succ]
                refine take_drop (i := 5) (v := ?v5_3) rfl (by kernel_rfl) (by kernel_rfl) (by kernel_rfl) (fun _ _ _ h => h) (Or.inl ⟨by rfl, ?h5_3⟩) hHeld ?r5_3
                case h5_3 => (intro wS hSw; obtain ⟨s0, s1⟩ := hSw; go_simp; all_goals (with_reducible rfl))
                simp only [Act.put, List.setIfInBounds_toArray, List.set_cons_zero, List.set_cons_succ]
                refine take_drop (i := 7) (v := ?v7_3) rfl (by kernel_rfl) (by kernel_rfl) (by kernel_rfl) (fun _ _ _ h => h) (Or.inl ⟨by rfl, ?h7_3⟩) hHeld ?r7_3
                case h7_3 => (intro wS hSw; obtain ⟨s0, s1⟩ := hSw; go_simp; all_goals (with_reducible rfl))
                simp only [Act.put, List.setIfInBounds_toArray, List.set_cons_zero, List.set_cons_succ]
                refine wpAnyH_ready (rs := [6]) (by kernel_rfl) (by simp) ?_
                refine do_drop (i := 6) rfl (fun K hK => ?_) AllReadyH.nil
                go_simp
                refine HV9.out.mono ?_
                rintro e w10 ⟨rfl, f10⟩
                have y0 := f10.cell x0 (fun h => h)
                have y1 := f10.cell x1 (fun h => h)
                have HC10 := Lib.hid (HK.out.keep HCD.out f10 (fun _ _ h => h))
                have HL10 := Lib.hid (HLD.out.keep f10 (fun _ _ h => h))
                have HF10 := Lib.hid (HFD.out.trans f10)
                have HS10 := Lib.hid (Nat.le_trans HSD.out f10.size)
                clear f10 hHeld
                refine hK.out _ _ ⟨y0, y1⟩ ?_
                clear hK K
                try simp only [Act.put, List.setIfInBounds_toArray, List.set_cons_zero, List.set_cons_succ]
                have hS2 := And.intro y0 y1
                refine take_drop (i := 8) (v := ?v8_3) rfl (by kernel_rfl) (by kernel_rfl) (by kernel_rfl) (fun _ _ _ h => h) (Or.inl ⟨by rfl, ?h8_3⟩) hS2 ?r8_3
                case h8_3 => (intro wS hSw; obtain ⟨s0, s1⟩ := hSw; go_simp; all_goals (with_reducible rfl))
                simp only [Act.put, List.setIfInBounds_toArray, List.set_cons_zero, List.set_cons_succ]
                refine take_drop (i := 9) (v := ?v9_3) rfl (by kernel_rfl) (by kernel_rfl) (by kernel_rfl) (fun _ _ _ h => h) (Or.inl ⟨by rfl, ?h9_3⟩) hS2 ?r9_3
                case h9_3 => (intro wS hSw; obtain ⟨s0, s1⟩ := hSw; go_simp; all_goals (with_reducible rfl))
                simp only [Act.put, List.setIfInBounds_toArray, List.set_cons_zero, List.set_cons_succ]
                refine take_drop (i := 10) (v := ?v10_3) rfl (by kernel_rfl) (by kernel_rfl) (by kernel_rfl) (fun _ _ _ h => h) (Or.inl ⟨by rfl, ?h10_3⟩) hS2 ?r10_3
                case h10_3 => (intro wS hSw; obtain ⟨s0, s1⟩ := hSw; go_simp; all_goals (with_reducible rfl))
                simp only [Act.put, List.setIfInBounds_toArray, List.set_cons_zero, List.set_cons_succ]
                refine take_drop (i := 11) (v := ?v11_3) rfl (by kernel_rfl) (by kernel_rfl) (by kernel_rfl) (fun _ _ _ h => h) (Or.inl ⟨by rfl, ?h11_3⟩) hS2 ?r11_3
                case h11_3 => (intro wS hSw; obtain ⟨s0, s1⟩ := hSw; go_simp; all_goals (with_reducible rfl))
                simp only [Act.put, List.setIfInBounds_toArray, List.set_cons_zero, List.set_cons_succ]
                refine take_drop (i := 12) (v := ?v12_3) rfl (by kernel_rfl) (by kernel_rfl) (by kernel_rfl) (fun _ _ _ h => h) (Or.inl ⟨by rfl, ?h12_3⟩) hS2 ?r12_3
                case h12_3 => (intro wS hSw; obtain ⟨s0, s1⟩ := hSw; go_simp; all_goals (with_reducible rfl))
                simp only [Act.put, List.setIfInBounds_toArray, List.set_cons_zero, List.set_cons_succ]
                refine take_drop (i := 13) (v := undef) rfl (by kernel_rfl) (by kernel_rfl) (by kernel_rfl) (fun _ _ _ h => h) (Or.inr ⟨by rfl, rfl⟩) hS2 ?_
                simp only [Act.put, List.setIfInBounds_toArray, List.set_cons_zero, List.set_cons_succ]
                refine take_drop (i := 14) (v := undef) rfl (by kernel_rfl) (by kernel_rfl) (by kernel_rfl) (fun _ _ _ h => h) (Or.inr ⟨by rfl, rfl⟩) hS2 ?_
                simp only [Act.put, List.setIfInBounds_toArray, List.set_cons_zero, List.set_cons_succ]
                refine take_drop (i := 15) (v := undef) rfl (by kernel_rfl) (by kernel_rfl) (by kernel_rfl) (fun _ _ _ h => h) (Or.inr ⟨by rfl, rfl⟩) hS2 ?_
                simp only [Act.put, List.setIfInBounds_toArray, List.set_cons_zero, List.set_cons_succ]
                refine take_drop (i := 16) (v := undef) rfl (by kernel_rfl) (by kernel_rfl) (by kernel_rfl) (fun _ _ _ h => h) (Or.inr ⟨by rfl, rfl⟩) hS2 ?_
                simp only [Act.put, List.setIfInBounds_toArray, List.set_cons_zero, List.set_cons_succ]
                refine take_drop (i := 17) (v := undef) rfl (by kernel_rfl) (by kernel_rfl) (by kernel_rfl) (fun _ _ _ h => h) (Or.inr ⟨by rfl, rfl⟩) hS2 ?_
                simp only [Act.put, List.setIfInBounds_toArray, List.set_cons_zero, List.set_cons_succ]
                refine take_drop (i := 18) (v := undef) rfl (by kernel_rfl) (by kernel_rfl) (by kernel_rfl) (fun _ _ _ h => h) (Or.inr ⟨by rfl, rfl⟩) hS2 ?_
                simp only [Act.put, List.setIfInBounds_toArray, List.set_cons_zero, List.set_cons_succ]
                refine take_drop (i := 19) (v := undef) rfl (by kernel_rfl) (by kernel_rfl) (by kernel_rfl) (fun _ _ _ h => h) (Or.inr ⟨by rfl, rfl⟩) hS2 ?_
                simp only [Act.put, List.setIfInBounds_toArray, List.set_cons_zero, List.set_cons_succ]
                refine take_drop (i := 20) (v := undef) rfl (by kernel_rfl) (by kernel_rfl) (by kernel_rfl) (fun _ _ _ h => h) (Or.inr ⟨by rfl, rfl⟩) hS2 ?_
                simp only [Act.put, List.setIfInBounds_toArray, List.set_cons_zero, List.set_cons_succ]
                refine take_drop (i := 21) (v := undef) rfl (by kernel_rfl) (by kernel_rfl) (by kernel_rfl) (fun _ _ _ h => h) (Or.inr ⟨by rfl, rfl⟩) hS2 ?_
                simp only [Act.put, List.setIfInBounds_toArray, List.set_cons_zero, List.set_cons_succ]
                refine take_drop (i := 22) (v := undef) rfl (by kernel_rfl) (by kernel_rfl) (by kernel_rfl) (fun _ _ _ h => h) (Or.inr ⟨by rfl, rfl⟩) hS2 ?_
                simp only [Act.put, List.setIfInBounds_toArray, List.set_cons_zero, List.set_cons_succ]
                refine take_drop (i := 23) (v := undef) rfl (by kernel_rfl) (by kernel_rfl) (by kernel_rfl) (fun _ _ _ h => h) (Or.inr ⟨by rfl, rfl⟩) hS2 ?_
                simp only [Act.put, List.setIfInBounds_toArray, List.set_cons_zero, List.set_cons_succ]
                refine take_drop (i := 24) (v := undef) rfl (by kernel_rfl) (by kernel_rfl) (by kernel_rfl) (fun _ _ _ h => h) (Or.inr ⟨by rfl, rfl⟩) hS2 ?_
                simp only [Act.put, List.setIfInBounds_toArray, List.set_cons_zero, List.set_cons_succ]
                refine take_drop (i := 25) (v := undef) rfl (by kernel_rfl) (by kernel_rfl) (by kernel_rfl) (fun _ _ _ h => h) (Or.inr ⟨by rfl, rfl⟩) hS2 ?_
                simp only [Act.put, List.setIfInBounds_toArray, List.set_cons_zero, List.set_cons_succ]
                refine take_drop (i := 26) (v := undef) rfl (by kernel_rfl) (by kernel_rfl) (by kernel_rfl) (fun _ _ _ h => h) (Or.inr ⟨by rfl, rfl⟩) hS2 ?_
                simp only [Act.put, List.setIfInBounds_toArray, List.set_cons_zero, List.set_cons_succ]
                refine take_drop (i := 27) (v := undef) rfl (by kernel_rfl) (by kernel_rfl) (by kernel_rfl) (fun _ _ _ h => h) (Or.inr ⟨by rfl, rfl⟩) hS2 ?_
                simp only [Act.put, List.setIfInBounds_toArray, List.set_cons_zero, List.set_cons_succ]
                refine take_drop (i := 28) (v := undef) rfl (by kernel_rfl) (by kernel_rfl) (by kernel_rfl) (fun _ _ _ h => h) (Or.inr ⟨by rfl, rfl⟩) hS2 ?_
                simp only [Act.put, List.setIfInBounds_toArray, List.set_cons_zero, List.set_cons_succ]
                refine take_drop (i := 29) (v := undef) rfl (by kernel_rfl) (by kernel_rfl) (by kernel_rfl) (fun _ _ _ h => h) (Or.inr ⟨by rfl, rfl⟩) hS2 ?_
                simp only [Act.put, List.setIfInBounds_toArray, List.set_cons_zero, List.set_cons_succ]
                refine take_drop (i := 30) (v := undef) rfl (by kernel_rfl) (by kernel_rfl) (by kernel_rfl) (fun _ _ _ h => h) (Or.inr ⟨by rfl, rfl⟩) hS2 ?_
                simp only [Act.put, List.setIfInBounds_toArray, List.set_cons_zero, List.set_cons_succ]
                refine take_drop (i := 31) (v := ?v31_3) rfl (by kernel_rfl) (by kernel_rfl) (by kernel_rfl) (fun _ _ _ h => h) (Or.inl ⟨by rfl, ?h31_3⟩) hS2 ?r31_3
                case h31_3 => (intro wS hSw; obtain ⟨s0, s1⟩ := hSw; go_simp; all_goals (with_reducible rfl))
                simp only [Act.put, List.setIfInBounds_toArray, List.set_cons_zero, List.set_cons_succ]
                refine take_drop (i := 32) (v := ?v32_3) rfl (by kernel_rfl) (by kernel_rfl) (by kernel_rfl) (fun _ _ _ h => h) (Or.inl ⟨by rfl, ?h32_3⟩) hS2 ?r32_3
                case h32_3 => (intro wS hSw; obtain ⟨s0, s1⟩ := hSw; go_simp; all_goals (with_reducible rfl))
                simp only [Act.put, List.setIfInBounds_toArray, List.set_cons_zero, List.set_cons_succ]
                refine take_drop (i := 33) (v := ?v33_3) rfl (by kernel_rfl) (by kernel_rfl) (by kernel_rfl) (fun _ _ _ h => h) (Or.inl ⟨by rfl, ?h33_3⟩) hS2 ?r33_3
                case h33_3 => (intro wS hSw; obtain ⟨s0, s1⟩ := hSw; go_simp; all_goals (with_reducible rfl))
                simp only [Act.put, List.setIfInBounds_toArray, List.set_cons_zero, List.set_cons_succ]
                refine take_drop (i := 34) (v := ?v34_3) rfl (by kernel_rfl) (by kernel_rfl) (by kernel_rfl) (fun _ _ _ h => h) (Or.inl ⟨by rfl, ?h34_3⟩) hS2 ?r34_3
                case h34_3 => (intro wS hSw; obtain ⟨s0, s1⟩ := hSw; go_simp; all_goals (with_reducible rfl))
                simp only [Act.put, List.setIfInBounds_toArray, List.set_cons_zero, List.set_cons_succ]
                refine take_drop (i := 35) (v := ?v35_3) rfl (by kernel_rfl) (by kernel_rfl) (by kernel_rfl) (fun _ _ _ h => h) (Or.inl ⟨by rfl, ?h35_3⟩) hS2 ?r35_3
                case h35_3 => (intro wS hSw; obtain ⟨s0, s1⟩ := hSw; go_simp; all_goals (with_reducible rfl))
                simp only [Act.put, List.setIfInBounds_toArray, List.set_cons_zero, List.set_cons_succ]
                refine take_drop (i := 36) (v := ?v36_3) rfl (by kernel_rfl) (by kernel_rfl) (by kernel_rfl) (fun _ _ _ h => h) (Or.inl ⟨by rfl, ?h36_3⟩) hS2 ?r36_3
                case h36_3 => (intro wS hSw; obtain ⟨s0, s1⟩ := hSw; go_simp; all_goals (with_reducible rfl))
                simp only [Act.put, List.setIfInBounds_toArray, List.set_cons_zero, List.set_cons_succ]
                refine take_drop (i := 37) (v := ?v37_3) rfl (by kernel_rfl) (by kernel_rfl) (by kernel_rfl) (fun _ _ _ h => h) (Or.inl ⟨by rfl, ?h37_3⟩) hS2 ?r37_3
                case h37_3 => (intro wS hSw; obtain ⟨s0, s1⟩ := hSw; go_simp; all_goals (with_reducible rfl))
                simp only [Act.put, List.setIfInBounds_toArray, List.set_cons_zero, List.set_cons_succ]
                refine take_drop (i := 38) (v := ?v38_3) rfl (by kernel_rfl) (by kernel_rfl) (by kernel_rfl) (fun _ _ _ h => h) (Or.inl ⟨by rfl, ?h38_3⟩) hS2 ?r38_3
                case h38_3 => (intro wS hSw; obtain ⟨s0, s1⟩ := hSw; go_simp; all_goals (with_reducible rfl))
                simp only [Act.put, List.setIfInBounds_toArray, List.set_cons_zero, List.set_cons_succ]
                refine take_drop (i := 39) (v := ?v39_3) rfl (by kernel_rfl) (by kernel_rfl) (by kernel_rfl) (fun _ _ _ h => h) (Or.inl ⟨by rfl, ?h39_3⟩) hS2 ?r39_3
                case h39_3 => (intro wS hSw; obtain ⟨s0, s1⟩ := hSw; go_simp; all_goals (with_reducible rfl))
                simp only [Act.put, List.setIfInBounds_toArray, List.set_cons_zero, List.set_cons_succ]
                refine take_drop (i := 40) (v := ?v40_3) rfl (by kernel_rfl) (by kernel_rfl) (by kernel_rfl) (fun _ _ _ h => h) (Or.inl ⟨by rfl, ?h40_3⟩) hS2 ?r40_3
                case h40_3 => (intro wS hSw; obtain ⟨s0, s1⟩ := hSw; go_simp; all_goals (with_reducible rfl))
                simp only [Act.put, List.setIfInBounds_toArray, List.set_cons_zero, List.set_cons_succ]
                refine take_drop (i := 41) (v := ?v41_3) rfl (by kernel_rfl) (by kernel_rfl) (by kernel_rfl) (fun _ _ _ h => h) (Or.inl ⟨by rfl, ?h41_3⟩) hS2 ?r41_3
                case h41_3 => (intro wS hSw; obtain ⟨s0, s1⟩ := hSw; go_simp; all_goals (with_reducible rfl))
                simp only [Act.put, List.setIfInBounds_toArray, List.set_cons_zero, List.set_cons_succ]
                refine wpAnyH_done (by kernel_rfl) ?_ _

                go_wp2_with fail
                go_roundw
                case rel => exact ⟨j + 1, -1, X8, Y8, by simp, by omega, by first | rfl | simp | (congr 1; omega), by omega, HC10.out, HL10.out, HY8.out, HX8.out, HS10.out, HF10.out⟩
                case measure => simp [intOf]; omega
              | succ s =>
                have hn : s < s + 1 := by omega
                have g1 : decide (((s + 1 : Nat) : Int) ≤ (s : Int)) = false := by rw [decide_eq_false_iff_not]; omega
                have g3 : ((s + 1 : Nat) : Int) - 1 = (s : Int) := by omega
                go_wp2_with fail
                refine HMV.out.mono ?_
                rintro e w8 ⟨rfl, X8, Y8, hC8, hX8, hY8, f8⟩
                rw [show ((L.length : Int) - 1) = (s : Int) by rw [HML.out]; omega] at hC8
                rw [show ((L.length : Int) - 1) = (s : Int) by rw [HML.out]; omega]
                rw [show decide ((0 : Int) ≤ (s : Int)) = true by first | (rw [decide_eq_true_eq]; omega) | (rw [decide_eq_false_iff_not]; omega)]
                have HC8 := Lib.hid hC8
                have HL8 := Lib.hid (HL7.out.keep f8 (fun k hk hy => HXr.out k hy hk))
                have HF8 : Hid (Fr No W w8) := Lib.hid (HF7.out.then_ f8 fun k hk hy => absurd (HYr.out k hy) (by omega))
                have HY8 : Hid (∀ k, Y8 k → W.heap.size ≤ k) := Lib.hid fun k hk => (hY8 k hk).elim (HYr.out k) (fun h => Nat.le_trans HF7.out.size h.1)
                have HX8 : Hid (∀ k, Y8 k → ¬ XL k) := Lib.hid fun k hk h => (hY8 k hk).elim (fun hy => HXr.out k hy h) (fun hn => by
                  have h1 := HXB.out k h
                  have h2 := HSZ.out
                  have h3 := HG7.out.size
                  omega)
                have HS8 : Hid (w6.heap.size ≤ w8.heap.size) := Lib.hid (Nat.le_trans (Nat.le_trans HSZ.out HG7.out.size) f8.size)
                have e3 := f8.cell e1 (fun hy => HOB.out _ hy rfl)
                clear hC8 hX8 hY8 f8 e0 e1
                have HIT := HK.out.item HC8.out
                rw [show itemI L ((s : Int)) = L.getD s p20 by unfold itemI; rw [if_pos (by omega)]; congr 1] at HIT
                have HCEL : Hid (∀ w', Fr No w8 w' → ∃ g p, oa = some ⟨g, p, none⟩ ∧ w'.cell? ⟨g, p + s * 2, none⟩ = some (.int .i64 (L.getD s p20).1) ∧ w'.cell? ⟨g, p + s * 2 + 1, none⟩ = some (.int .i64 (L.getD s p20).2)) := Lib.hid fun w' f => by
                  obtain ⟨g, p, _, hg, hc⟩ := HL8.out (by rw [HML.out]; omega)
                  exact ⟨g, p, hg, f.cell (hc s (by rw [HML.out]; exact hn)).1 (fun h => h), f.cell (hc s (by rw [HML.out]; exact hn)).2 (fun h => h)⟩
                generalize (L.getD s p20).1 = xk at *
                generalize (L.getD s p20).2 = xv at *
                have HIT := Lib.hid HIT
                go_wp2_with fail
                refine HIT.out.mono ?_
                rintro e w9 ⟨rfl, f9⟩
                have HC9 := HK.out.keep HC8.out f9 (fun _ _ h => h)
                have HL9 := HL8.out.keep f9 (fun _ _ h => h)
                have HF9 := HF8.out.trans f9
                have fB := (Fr.refl No w9).alloc (.cells #[.int .i64 xk, .int .i64 xv] 49)
                have x0 : (w9.alloc (.cells #[.int .i64 xk, .int .i64 xv] 49)).drew.cell? ⟨w9.heap.size, 0, none⟩ = some (.int .i64 xk) := (At.new w9 49 #[.int .i64 xk, .int .i64 xv]).cell 0
                have x1 : (w9.alloc (.cells #[.int .i64 xk, .int .i64 xv] 49)).drew.cell? ⟨w9.heap.size, 1, none⟩ = some (.int .i64 xv) := (At.new w9 49 #[.int .i64 xk, .int .i64 xv]).cell 1
                have HCD := Lib.hid (HK.out.keep HC9 fB.drew (fun _ _ h => h))
                have HLD := Lib.hid (HL9.keep fB.drew (fun _ _ h => h))
                have HFD := Lib.hid (HF9.trans fB.drew)
                have HSD := Lib.hid (Nat.le_trans HS8.out (f9.trans fB.drew).size)
                have HV9 := HK.out.valid HCD.out
                rw [show decide ((0 : Int) ≤ (s : Int)) = true by first | (rw [decide_eq_true_eq]; omega) | (rw [decide_eq_false_iff_not]; omega)] at HV9
                have HV9 := Lib.hid HV9
                have bn0 : (0 : Int) ≤ (s : Int) := by omega
                have bn1 : (s : Int) < ((s + 1 : Nat) : Int) := by omega
                obtain ⟨lg, lp, rfl, l0, l1⟩ := HCEL.out _ (f9.trans fB.drew)
                have r1 : (xk == xk) = true := by simp
                have r2 : (xv == xv) = true := by simp
                have r3 : decide ((0 : Int) ≤ (s : Int)) = true := by first | (rw [decide_eq_true_eq]; omega) | (rw [decide_eq_false_iff_not]; omega)
                clear f9 HC9 HL9 HF9 fB
                try clear e3
                try clear e0 e1
                go_wp2_with fail
                refine wp_region_held_drew (S := fun w' => w'.cell? ⟨w9.heap.size, 0, none⟩ = some (.int .i64 xk) ∧ w'.cell? ⟨w9.heap.size, 1, none⟩ = some (.int .i64 xv) ∧ w'.cell? ⟨lg, lp + s * 2, none⟩ = some (.int .i64 xk) ∧ w'.cell? ⟨lg, lp + s * 2 + 1, none⟩ = some (.int .i64 xv)) (by kernel_rfl) ⟨x0, x1, l0, l1⟩ (fun hHeld => ?_)
                refine take_drop (i := 0) (v := ?v0_4) rfl (by kernel_rfl) (by kernel_rfl) (by kernel_rfl) (fun _ _ _ h => h) (Or.inl ⟨by rfl, ?h0_4⟩) hHeld ?r0_4
                case h0_4 => (intro wS hSw; obtain ⟨s0, s1, s2, s3⟩ := hSw; go_simp; all_goals (with_reducible rfl))
                simp only [Act.put, List.setIfInBounds_toArray, List.set_cons_zero, List.set_cons_succ]
                refine take_drop (i := 1) (v := ?v1_4) rfl (by kernel_rfl) (by kernel_rfl) (by kernel_rfl) (fun _ _ _ h => h) (Or.inl ⟨by rfl, ?h1_4⟩) hHeld ?r1_4
                case h1_4 => (intro wS hSw; obtain ⟨s0, s1, s2, s3⟩ := hSw; go_simp; all_goals (with_reducible rfl))
                simp only [Act.put, List.setIfInBounds_toArray, List.set_cons_zero, List.set_cons_succ]
                refine take_drop (i := 2) (v := ?v2_4) rfl (by kernel_rfl) (by kernel_rfl) (by kernel_rfl) (fun _ _ _ h => h) (Or.inl ⟨by rfl, ?h2_4⟩) hHeld ?r2_4
                case h2_4 => (intro wS hSw; obtain ⟨s0, s1, s2, s3⟩ := hSw; go_simp; all_goals (with_reducible rfl))
                simp only [Act.put, List.setIfInBounds_toArray, List.set_cons_zero, List.set_cons_succ]
                refine take_drop (i := 3) (v := ?v3_4) rfl (by kernel_rfl) (by kernel_rfl) (by kernel_rfl) (fun _ _ _ h => h) (Or.inl ⟨by rfl, ?h3_4⟩) hHeld ?r3_4
                case h3_4 => (intro wS hSw; obtain ⟨s0, s1, s2, s3⟩ := hSw; go_simp; all_goals (with_reducible rfl))
                simp only [Act.put, List.setIfInBounds_toArray, List.set_cons_zero, List.set_cons_succ]
                refine take_drop (i := 4) (v := ?v4_4) rfl (by kernel_rfl) (by kernel_rfl) (by kernel_rfl) (fun _ _ _ h => h) (Or.inl ⟨by rfl, ?h4_4⟩) hHeld ?r4_4
                case h4_4 => (intro wS hSw; obtain ⟨s0, s1, s2, s3⟩ := hSw; go_simp; all_goals (with_reducible rfl))
                simp only [Act.put, List.setIfInBounds_toArray, List.set_cons_zero, List.set_cons_succ]
                refine take_drop (i := 5) (v := ?v5_4) rfl (by kernel_rfl) (by kernel_rfl) (by kernel_rfl) (fun _ _ _ h => h) (Or.inl ⟨by rfl, ?h5_4⟩) hHeld ?r5_4
                case h5_4 => (intro wS hSw; obtain ⟨s0, s1, s2, s3⟩ := hSw; go_simp; all_goals (with_reducible rfl))
                simp only [Act.put, List.setIfInBounds_toArray, List.set_cons_zero, List.set_cons_succ]
                refine take_drop (i := 7) (v := ?v7_4) rfl (by kernel_rfl) (by kernel_rfl) (by kernel_rfl) (fun _ _ _ h => h) (Or.inl ⟨by rfl, ?h7_4⟩) hHeld ?r7_4
                case h7_4 => (intro wS hSw; obtain ⟨s0, s1, s2, s3⟩ := hSw; go_simp; all_goals (with_reducible rfl))
                simp only [Act.put, List.setIfInBounds_toArray, List.set_cons_zero, List.set_cons_succ]
                refine wpAnyH_ready (rs := [6]) (by kernel_rfl) (by simp) ?_
                refine do_drop (i := 6) rfl (fun K hK => ?_) AllReadyH.nil
                go_simp
                refine HV9.out.mono ?_
                rintro e w10 ⟨rfl, f10⟩
                have y0 := f10.cell x0 (fun h => h)
                have y1 := f10.cell x1 (fun h => h)
                have y2 := f10.cell l0 (fun h => h)
                have y3 := f10.cell l1 (fun h => h)
                have HC10 := Lib.hid (HK.out.keep HCD.out f10 (fun _ _ h => h))
                have HL10 := Lib.hid (HLD.out.keep f10 (fun _ _ h => h))
                have HF10 := Lib.hid (HFD.out.trans f10)
                have HS10 := Lib.hid (Nat.le_trans HSD.out f10.size)
                clear f10 hHeld
                refine hK.out _ _ ⟨y0, y1, y2, y3⟩ ?_
                clear hK K
                try simp only [Act.put, List.setIfInBounds_toArray, List.set_cons_zero, List.set_cons_succ]
                have hS2 := And.intro y0 (And.intro y1 (And.intro y2 y3))
                refine take_drop (i := 8) (v := ?v8_4) rfl (by kernel_rfl) (by kernel_rfl) (by kernel_rfl) (fun _ _ _ h => h) (Or.inl ⟨by rfl, ?h8_4⟩) hS2 ?r8_4
                case h8_4 => (intro wS hSw; obtain ⟨s0, s1, s2, s3⟩ := hSw; go_simp; all_goals (with_reducible rfl))
                simp only [Act.put, List.setIfInBounds_toArray, List.set_cons_zero, List.set_cons_succ]
                refine take_drop (i := 9) (v := ?v9_4) rfl (by kernel_rfl) (by kernel_rfl) (by kernel_rfl) (fun _ _ _ h => h) (Or.inl ⟨by rfl, ?h9_4⟩) hS2 ?r9_4
                case h9_4 => (intro wS hSw; obtain ⟨s0, s1, s2, s3⟩ := hSw; go_simp; all_goals (with_reducible rfl))
                simp only [Act.put, List.setIfInBounds_toArray, List.set_cons_zero, List.set_cons_succ]
                refine take_drop (i := 10) (v := ?v10_4) rfl (by kernel_rfl) (by kernel_rfl) (by kernel_rfl) (fun _ _ _ h => h) (Or.inl ⟨by rfl, ?h10_4⟩) hS2 ?r10_4
                case h10_4 => (intro wS hSw; obtain ⟨s0, s1, s2, s3⟩ := hSw; go_simp; all_goals (with_reducible rfl))
                simp only [Act.put, List.setIfInBounds_toArray, List.set_cons_zero, List.set_cons_succ]
                refine take_drop (i := 11) (v := ?v11_4) rfl (by kernel_rfl) (by kernel_rfl) (by kernel_rfl) (fun _ _ _ h => h) (Or.inl ⟨by rfl, ?h11_4⟩) hS2 ?r11_4
                case h11_4 => (intro wS hSw; obtain ⟨s0, s1, s2, s3⟩ := hSw; go_simp; all_goals (with_reducible rfl))
                simp only [Act.put, List.setIfInBounds_toArray, List.set_cons_zero, List.set_cons_succ]
                refine take_drop (i := 12) (v := ?v12_4) rfl (by kernel_rfl) (by kernel_rfl) (by kernel_rfl) (fun _ _ _ h => h) (Or.inl ⟨by rfl, ?h12_4⟩) hS2 ?r12_4
                case h12_4 => (intro wS hSw; obtain ⟨s0, s1, s2, s3⟩ := hSw; go_simp; all_goals (with_reducible rfl))
                simp only [Act.put, List.setIfInBounds_toArray, List.set_cons_zero, List.set_cons_succ]
                refine take_drop (i := 13) (v := ?v13_4) rfl (by kernel_rfl) (by kernel_rfl) (by kernel_rfl) (fun _ _ _ h => h) (Or.inl ⟨by rfl, ?h13_4⟩) hS2 ?r13_4
                case h13_4 => (intro wS hSw; obtain ⟨s0, s1, s2, s3⟩ := hSw; go_simp; all_goals (with_reducible rfl))
                simp only [Act.put, List.setIfInBounds_toArray, List.set_cons_zero, List.set_cons_succ]
                refine take_drop (i := 14) (v := ?v14_4) rfl (by kernel_rfl) (by kernel_rfl) (by kernel_rfl) (fun _ _ _ h => h) (Or.inl ⟨by rfl, ?h14_4⟩) hS2 ?r14_4
                case h14_4 => (intro wS hSw; obtain ⟨s0, s1, s2, s3⟩ := hSw; go_simp; all_goals (with_reducible rfl))
                simp only [Act.put, List.setIfInBounds_toArray, List.set_cons_zero, List.set_cons_succ]
                refine take_drop (i := 15) (v := ?v15_4) rfl (by kernel_rfl) (by kernel_rfl) (by kernel_rfl) (fun _ _ _ h => h) (Or.inl ⟨by rfl, ?h15_4⟩) hS2 ?r15_4
                case h15_4 => (intro wS hSw; obtain ⟨s0, s1, s2, s3⟩ := hSw; go_simp; all_goals (with_reducible rfl))
                simp only [Act.put, List.setIfInBounds_toArray, List.set_cons_zero, List.set_cons_succ]
                refine take_drop (i := 16) (v := ?v16_4) rfl (by kernel_rfl) (by kernel_rfl) (by kernel_rfl) (fun _ _ _ h => h) (Or.inl ⟨by rfl, ?h16_4⟩) hS2 ?r16_4
                case h16_4 => (intro wS hSw; obtain ⟨s0, s1, s2, s3⟩ := hSw; go_simp; all_goals (with_reducible rfl))
                simp only [Act.put, List.setIfInBounds_toArray, List.set_cons_zero, List.set_cons_succ]
                refine take_drop (i := 17) (v := ?v17_4) rfl (by kernel_rfl) (by kernel_rfl) (by kernel_rfl) (fun _ _ _ h => h) (Or.inl ⟨by rfl, ?h17_4⟩) hS2 ?r17_4
                case h17_4 => (intro wS hSw; obtain ⟨s0, s1, s2, s3⟩ := hSw; go_simp; all_goals (with_reducible rfl))
                simp only [Act.put, List.setIfInBounds_toArray, List.set_cons_zero, List.set_cons_succ]
                refine take_drop (i := 18) (v := ?v18_4) rfl (by kernel_rfl) (by kernel_rfl) (by kernel_rfl) (fun _ _ _ h => h) (Or.inl ⟨by rfl, ?h18_4⟩) hS2 ?r18_4
                case h18_4 => (intro wS hSw; obtain ⟨s0, s1, s2, s3⟩ := hSw; go_simp; all_goals (with_reducible rfl))
                simp only [Act.put, List.setIfInBounds_toArray, List.set_cons_zero, List.set_cons_succ]
                refine take_drop (i := 19) (v := ?v19_4) rfl (by kernel_rfl) (by kernel_rfl) (by kernel_rfl) (fun _ _ _ h => h) (Or.inl ⟨by rfl, ?h19_4⟩) hS2 ?r19_4
                case h19_4 => (intro wS hSw; obtain ⟨s0, s1, s2, s3⟩ := hSw; go_simp; all_goals (with_reducible rfl))
                simp only [Act.put, List.setIfInBounds_toArray, List.set_cons_zero, List.set_cons_succ]
                refine take_drop (i := 20) (v := ?v20_4) rfl (by kernel_rfl) (by kernel_rfl) (by kernel_rfl) (fun _ _ _ h => h) (Or.inl ⟨by rfl, ?h20_4⟩) hS2 ?r20_4
                case h20_4 => (intro wS hSw; obtain ⟨s0, s1, s2, s3⟩ := hSw; go_simp; all_goals (with_reducible rfl))
                simp only [Act.put, List.setIfInBounds_toArray, List.set_cons_zero, List.set_cons_succ]
                refine take_drop (i := 21) (v := ?v21_4) rfl (by kernel_rfl) (by kernel_rfl) (by kernel_rfl) (fun _ _ _ h => h) (Or.inl ⟨by rfl, ?h21_4⟩) hS2 ?r21_4
                case h21_4 => (intro wS hSw; obtain ⟨s0, s1, s2, s3⟩ := hSw; go_simp; all_goals (with_reducible rfl))
                simp only [Act.put, List.setIfInBounds_toArray, List.set_cons_zero, List.set_cons_succ]
                refine take_drop (i := 22) (v := ?v22_4) rfl (by kernel_rfl) (by kernel_rfl) (by kernel_rfl) (fun _ _ _ h => h) (Or.inl ⟨by rfl, ?h22_4⟩) hS2 ?r22_4
                case h22_4 => (intro wS hSw; obtain ⟨s0, s1, s2, s3⟩ := hSw; go_simp; all_goals (with_reducible rfl))
                simp only [Act.put, List.setIfInBounds_toArray, List.set_cons_zero, List.set_cons_succ]
                refine take_drop (i := 23) (v := ?v23_4) rfl (by kernel_rfl) (by kernel_rfl) (by kernel_rfl) (fun _ _ _ h => h) (Or.inl ⟨by rfl, ?h23_4⟩) hS2 ?r23_4
                case h23_4 => (intro wS hSw; obtain ⟨s0, s1, s2, s3⟩ := hSw; go_simp; all_goals (with_reducible rfl))
                simp only [Act.put, List.setIfInBounds_toArray, List.set_cons_zero, List.set_cons_succ]
                refine take_drop (i := 24) (v := ?v24_4) rfl (by kernel_rfl) (by kernel_rfl) (by kernel_rfl) (fun _ _ _ h => h) (Or.inl ⟨by rfl, ?h24_4⟩) hS2 ?r24_4
                case h24_4 => (intro wS hSw; obtain ⟨s0, s1, s2, s3⟩ := hSw; go_simp; all_goals (with_reducible rfl))
                simp only [Act.put, List.setIfInBounds_toArray, List.set_cons_zero, List.set_cons_succ]
                refine take_drop (i := 25) (v := ?v25_4) rfl (by kernel_rfl) (by kernel_rfl) (by kernel_rfl) (fun _ _ _ h => h) (Or.inl ⟨by rfl, ?h25_4⟩) hS2 ?r25_4
                case h25_4 => (intro wS hSw; obtain ⟨s0, s1, s2, s3⟩ := hSw; go_simp; all_goals (with_reducible rfl))
                simp only [Act.put, List.setIfInBounds_toArray, List.set_cons_zero, List.set_cons_succ]
                refine take_drop (i := 26) (v := ?v26_4) rfl (by kernel_rfl) (by kernel_rfl) (by kernel_rfl) (fun _ _ _ h => h) (Or.inl ⟨by rfl, ?h26_4⟩) hS2 ?r26_4
                case h26_4 => (intro wS hSw; obtain ⟨s0, s1, s2, s3⟩ := hSw; go_simp; all_goals (with_reducible rfl))
                simp only [Act.put, List.setIfInBounds_toArray, List.set_cons_zero, List.set_cons_succ]
                refine take_drop (i := 27) (v := ?v27_4) rfl (by kernel_rfl) (by kernel_rfl) (by kernel_rfl) (fun _ _ _ h => h) (Or.inl ⟨by rfl, ?h27_4⟩) hS2 ?r27_4
                case h27_4 => (intro wS hSw; obtain ⟨s0, s1, s2, s3⟩ := hSw; go_simp; all_goals (with_reducible rfl))
                simp only [Act.put, List.setIfInBounds_toArray, List.set_cons_zero, List.set_cons_succ]
                refine take_drop (i := 28) (v := ?v28_4) rfl (by kernel_rfl) (by kernel_rfl) (by kernel_rfl) (fun _ _ _ h => h) (Or.inl ⟨by rfl, ?h28_4⟩) hS2 ?r28_4
                case h28_4 => (intro wS hSw; obtain ⟨s0, s1, s2, s3⟩ := hSw; go_simp; all_goals (with_reducible rfl))
                simp only [Act.put, List.setIfInBounds_toArray, List.set_cons_zero, List.set_cons_succ]
                refine take_drop (i := 29) (v := ?v29_4) rfl (by kernel_rfl) (by kernel_rfl) (by kernel_rfl) (fun _ _ _ h => h) (Or.inl ⟨by rfl, ?h29_4⟩) hS2 ?r29_4
                case h29_4 => (intro wS hSw; obtain ⟨s0, s1, s2, s3⟩ := hSw; go_simp; all_goals (with_reducible rfl))
                simp only [Act.put, List.setIfInBounds_toArray, List.set_cons_zero, List.set_cons_succ]
                refine take_drop (i := 30) (v := ?v30_4) rfl (by kernel_rfl) (by kernel_rfl) (by kernel_rfl) (fun _ _ _ h => h) (Or.inl ⟨by rfl, ?h30_4⟩) hS2 ?r30_4
                case h30_4 => (intro wS hSw; obtain ⟨s0, s1, s2, s3⟩ := hSw; go_simp; all_goals (with_reducible rfl))
                simp only [Act.put, List.setIfInBounds_toArray, List.set_cons_zero, List.set_cons_succ]
                refine take_drop (i := 31) (v := ?v31_4) rfl (by kernel_rfl) (by kernel_rfl) (by kernel_rfl) (fun _ _ _ h => h) (Or.inl ⟨by rfl, ?h31_4⟩) hS2 ?r31_4
                case h31_4 => (intro wS hSw; obtain ⟨s0, s1, s2, s3⟩ := hSw; go_simp; all_goals (with_reducible rfl))
                simp only [Act.put, List.setIfInBounds_toArray, List.set_cons_zero, List.set_cons_succ]
                refine take_drop (i := 32) (v := ?v32_4) rfl (by kernel_rfl) (by kernel_rfl) (by kernel_rfl) (fun _ _ _ h => h) (Or.inl ⟨by rfl, ?h32_4⟩) hS2 ?r32_4
                case h32_4 => (intro wS hSw; obtain ⟨s0, s1, s2, s3⟩ := hSw; go_simp; all_goals (with_reducible rfl))
                simp only [Act.put, List.setIfInBounds_toArray, List.set_cons_zero, List.set_cons_succ]
                refine take_drop (i := 33) (v := ?v33_4) rfl (by kernel_rfl) (by kernel_rfl) (by kernel_rfl) (fun _ _ _ h => h) (Or.inl ⟨by rfl, ?h33_4⟩) hS2 ?r33_4
                case h33_4 => (intro wS hSw; obtain ⟨s0, s1, s2, s3⟩ := hSw; go_simp; all_goals (with_reducible rfl))
                simp only [Act.put, List.setIfInBounds_toArray, List.set_cons_zero, List.set_cons_succ]
                refine take_drop (i := 34) (v := ?v34_4) rfl (by kernel_rfl) (by kernel_rfl) (by kernel_rfl) (fun _ _ _ h => h) (Or.inl ⟨by rfl, ?h34_4⟩) hS2 ?r34_4
                case h34_4 => (intro wS hSw; obtain ⟨s0, s1, s2, s3⟩ := hSw; go_simp; all_goals (with_reducible rfl))
                simp only [Act.put, List.setIfInBounds_toArray, List.set_cons_zero, List.set_cons_succ]
                refine take_drop (i := 35) (v := ?v35_4) rfl (by kernel_rfl) (by kernel_rfl) (by kernel_rfl) (fun _ _ _ h => h) (Or.inl ⟨by rfl, ?h35_4⟩) hS2 ?r35_4
                case h35_4 => (intro wS hSw; obtain ⟨s0, s1, s2, s3⟩ := hSw; go_simp; all_goals (with_reducible rfl))
                simp only [Act.put, List.setIfInBounds_toArray, List.set_cons_zero, List.set_cons_succ]
                refine take_drop (i := 36) (v := ?v36_4) rfl (by kernel_rfl) (by kernel_rfl) (by kernel_rfl) (fun _ _ _ h => h) (Or.inl ⟨by rfl, ?h36_4⟩) hS2 ?r36_4
                case h36_4 => (intro wS hSw; obtain ⟨s0, s1, s2, s3⟩ := hSw; go_simp; all_goals (with_reducible rfl))
                simp only [Act.put, List.setIfInBounds_toArray, List.set_cons_zero, List.set_cons_succ]
                refine take_drop (i := 37) (v := undef) rfl (by kernel_rfl) (by kernel_rfl) (by kernel_rfl) (fun _ _ _ h => h) (Or.inr ⟨by rfl, rfl⟩) hS2 ?_
                simp only [Act.put, List.setIfInBounds_toArray, List.set_cons_zero, List.set_cons_succ]
                refine take_drop (i := 38) (v := undef) rfl (by kernel_rfl) (by kernel_rfl) (by kernel_rfl) (fun _ _ _ h => h) (Or.inr ⟨by rfl, rfl⟩) hS2 ?_
                simp only [Act.put, List.setIfInBounds_toArray, List.set_cons_zero, List.set_cons_succ]
                refine take_drop (i := 39) (v := undef) rfl (by kernel_rfl) (by kernel_rfl) (by kernel_rfl) (fun _ _ _ h => h) (Or.inr ⟨by rfl, rfl⟩) hS2 ?_
                simp only [Act.put, List.setIfInBounds_toArray, List.set_cons_zero, List.set_cons_succ]
                refine take_drop (i := 40) (v := ?v40_4) rfl (by kernel_rfl) (by kernel_rfl) (by kernel_rfl) (fun _ _ _ h => h) (Or.inl ⟨by rfl, ?h40_4⟩) hS2 ?r40_4
                case h40_4 => (intro wS hSw; obtain ⟨s0, s1, s2, s3⟩ := hSw; go_simp; all_goals (with_reducible rfl))
                simp only [Act.put, List.setIfInBounds_toArray, List.set_cons_zero, List.set_cons_succ]
                refine take_drop (i := 41) (v := ?v41_4) rfl (by kernel_rfl) (by kernel_rfl) (by kernel_rfl) (fun _ _ _ h => h) (Or.inl ⟨by rfl, ?h41_4⟩) hS2 ?r41_4
                case h41_4 => (intro wS hSw; obtain ⟨s0, s1, s2, s3⟩ := hSw; go_simp; all_goals (with_reducible rfl))
                simp only [Act.put, List.setIfInBounds_toArray, List.set_cons_zero, List.set_cons_succ]
                refine wpAnyH_done (by kernel_rfl) ?_ _

                go_wp2_with fail
                go_roundw
                case rel => exact ⟨j + 1, (s : Int), X8, Y8, by simp, by omega, by first | rfl | simp | (congr 1; omega), by omega, HC10.out, HL10.out, HY8.out, HX8.out, HS10.out, HF10.out⟩
                case measure => simp [intOf]; omega
          by_cases hk3 : kd = 3
          · as_aux_lemma =>
              have hkd : kd = 3 := hk3
              subst hkd
              clear hk1 hk2 hk3
              have HMV := Lib.hid (HK.out.next HC7.out)
              rcases htb with rfl | ⟨ht0, ht1⟩
              · have g2 : decide ((0 : Int) ≤ -1) = false := by decide
                have g1 : decide ((m : Int) ≤ -1) = false := by first | (rw [decide_eq_true_eq]; omega) | (rw [decide_eq_false_iff_not]; omega)
                go_wp2_with fail
                refine HMV.out.mono ?_
                rintro e w8 ⟨rfl, X8, Y8, hC8, hX8, hY8, f8⟩
                rw [show nextI L.length (-1) = -1 from rfl] at hC8
                rw [show nextI L.length (-1) = -1 from rfl]
                rw [show decide ((0 : Int) ≤ -1) = false by first | (rw [decide_eq_true_eq]; omega) | (rw [decide_eq_false_iff_not]; omega)]
                have HC8 := Lib.hid hC8
                have HL8 := Lib.hid (HL7.out.keep f8 (fun k hk hy => HXr.out k hy hk))
                have HF8 : Hid (Fr No W w8) := Lib.hid (HF7.out.then_ f8 fun k hk hy => absurd (HYr.out k hy) (by omega))
                have HY8 : Hid (∀ k, Y8 k → W.heap.size ≤ k) := Lib.hid fun k hk => (hY8 k hk).elim (HYr.out k) (fun h => Nat.le_trans HF7.out.size h.1)
                have HX8 : Hid (∀ k, Y8 k → ¬ XL k) := Lib.hid fun k hk h => (hY8 k hk).elim (fun hy => HXr.out k hy h) (fun hn => by
                  have h1 := HXB.out k h
                  have h2 := HSZ.out
                  have h3 := HG7.out.size
                  omega)
                have HS8 : Hid (w6.heap.size ≤ w8.heap.size) := Lib.hid (Nat.le_trans (Nat.le_trans HSZ.out HG7.out.size) f8.size)
                have e3 := f8.cell e1 (fun hy => HOB.out _ hy rfl)
                clear hC8 hX8 hY8 f8 e0 e1
                have HIT := HK.out.item HC8.out
                rw [show itemI L (-1) = (0, 0) by unfold itemI; rw [if_neg (by omega)]] at HIT
                have HIT := Lib.hid HIT
                go_wp2_with fail
                refine HIT.out.mono ?_
                rintro e w9 ⟨rfl, f9⟩
                have HC9 := HK.out.keep HC8.out f9 (fun _ _ h => h)
                have HL9 := HL8.out.keep f9 (fun _ _ h => h)
                have HF9 := HF8.out.trans f9
                have fB := (Fr.refl No w9).alloc (.cells #[.int .i64 0, .int .i64 0] 49)
                have x0 : (w9.alloc (.cells #[.int .i64 0, .int .i64 0] 49)).drew.cell? ⟨w9.heap.size, 0, none⟩ = some (.int .i64 0) := (At.new w9 49 #[.int .i64 0, .int .i64 0]).cell 0
                have x1 : (w9.alloc (.cells #[.int .i64 0, .int .i64 0] 49)).drew.cell? ⟨w9.heap.size, 1, none⟩ = some (.int .i64 0) := (At.new w9 49 #[.int .i64 0, .int .i64 0]).cell 1
                have HCD := Lib.hid (HK.out.keep HC9 fB.drew (fun _ _ h => h))
                have HLD := Lib.hid (HL9.keep fB.drew (fun _ _ h => h))
                have HFD := Lib.hid (HF9.trans fB.drew)
                have HSD := Lib.hid (Nat.le_trans HS8.out (f9.trans fB.drew).size)
                have HV9 := HK.out.valid HCD.out
                rw [show decide ((0 : Int) ≤ -1) = false by first | (rw [decide_eq_true_eq]; omega) | (rw [decide_eq_false_iff_not]; omega)] at HV9
                have HV9 := Lib.hid HV9
                have r3 : decide ((0 : Int) ≤ -1) = false := by first | (rw [decide_eq_true_eq]; omega) | (rw [decide_eq_false_iff_not]; omega)
                clear f9 HC9 HL9 HF9 fB
                try clear e3
                try clear e0 e1
                go_wp2_with fail
                refine wp_region_held_drew (S := fun w' => w'.cell? ⟨w9.heap.size, 0, none⟩ = some (.int .i64 0) ∧ w'.cell? ⟨w9.heap.size, 1, none⟩ = some (.int .i64 0)) (by kernel_rfl) ⟨x0, x1⟩ (fun hHeld => ?_)
                refine take_drop (i := 0) (v := ?v0_5) rfl (by kernel_rfl) (by kernel_rfl) (by kernel_rfl) (fun _ _ _ h => h) (Or.inl ⟨by rfl, ?h0_5⟩) hHeld ?r0_5
                case h0_5 => (intro wS hSw; obtain ⟨s0, s1⟩ := hSw; go_simp; all_goals (with_reducible rfl))
                simp only [Act.put, List.setIfInBounds_toArray, List.set_cons_zero, List.set_cons_succ]
                refine take_drop (i := 1) (v := ?v1_5) rfl (by kernel_rfl) (by kernel_rfl) (by kernel_rfl) (fun _ _ _ h => h) (Or.inl ⟨by rfl, ?h1_5⟩) hHeld ?r1_5
                case h1_5 => (intro wS hSw; obtain ⟨s0, s1⟩ := hSw; go_simp; all_goals (with_reducible rfl))
                simp only [Act.put, List.setIfInBounds_toArray, List.set_cons_zero, List.set_cons_succ]
                refine take_drop (i := 2) (v := ?v2_5) rfl (by kernel_rfl) (by kernel_rfl) (by kernel_rfl) (fun _ _ _ h => h) (Or.inl ⟨by rfl, ?h2_5⟩) hHeld ?r2_5
                case h2_5 => (intro wS hSw; obtain ⟨s0, s1⟩ := hSw; go_simp; all_goals (with_reducible rfl))
                simp only [Act.put, List.setIfInBounds_toArray, List.set_cons_zero, List.set_cons_succ]
                refine take_drop (i := 3) (v := ?v3_5) rfl (by kernel_rfl) (by kernel_rfl) (by kernel_rfl) (fun _ _ _ h => h) (Or.inl ⟨by rfl, ?h3_5⟩) hHeld ?r3_5
                case h3_5 => (intro wS hSw; obtain ⟨s0, s1⟩ := hSw; go_simp; all_goals (with_reducible rfl))
                simp only [Act.put, List.setIfInBounds_toArray, List.set_cons_zero, List.set_cons_succ]
                refine take_drop (i := 4) (v := ?v4_5) rfl (by kernel_rfl) (by kernel_rfl) (by kernel_rfl) (fun _ _ _ h => h) (Or.inl ⟨by rfl, ?h4_5⟩) hHeld ?r4_5
                case h4_5 => (intro wS hSw; obtain ⟨s0, s1⟩ := hSw; go_simp; all_goals (with_reducible rfl))
                simp only [Act.put, List.setIfInBounds_toArray, List.set_cons_zero, List.set_cons_succ]
                refine take_drop (i := 5) (v := ?v5_5) rfl (by kernel_rfl) (by kernel_rfl) (by kernel_rfl) (fun _ _ _ h => h) (Or.inl ⟨by rfl, ?h5_5⟩) hHeld ?r5_5
                case h5_5 => (intro wS hSw; obtain ⟨s0, s1⟩ := hSw; go_simp; all_goals (with_reducible rfl))
                simp only [Act.put, List.setIfInBounds_toArray, List.set_cons_zero, List.set_cons_succ]
                refine take_drop (i := 7) (v := ?v7_5) rfl (by kernel_rfl) (by kernel_rfl) (by kernel_rfl) (fun _ _ _ h => h) (Or.inl ⟨by rfl, ?h7_5⟩) hHeld ?r7_5
                case h7_5 => (intro wS hSw; obtain ⟨s0, s1⟩ := hSw; go_simp; all_goals (with_reducible rfl))
                simp only [Act.put, List.setIfInBounds_toArray, List.set_cons_zero, List.set_cons_succ]
                refine wpAnyH_ready (rs := [6]) (by kernel_rfl) (by simp) ?_
                refine do_drop (i := 6) rfl (fun K hK => ?_) AllReadyH.nil
                go_simp
                refine HV9.out.mono ?_
                rintro e w10 ⟨rfl, f10⟩
                have y0 := f10.cell x0 (fun h => h)
                have y1 := f10.cell x1 (fun h => h)
                have HC10 := Lib.hid (HK.out.keep HCD.out f10 (fun _ _ h => h))
                have HL10 := Lib.hid (HLD.out.keep f10 (fun _ _ h => h))
                have HF10 := Lib.hid (HFD.out.trans f10)
                have HS10 := Lib.hid (Nat.le_trans HSD.out f10.size)
                clear f10 hHeld
                refine hK.out _ _ ⟨y0, y1⟩ ?_
                clear hK K
                try simp only [Act.put, List.setIfInBounds_toArray, List.set_cons_zero, List.set_cons_succ]
                have hS2 := And.intro y0 y1
                refine take_drop (i := 8) (v := ?v8_5) rfl (by kernel_rfl) (by kernel_rfl) (by kernel_rfl) (fun _ _ _ h => h) (Or.inl ⟨by rfl, ?h8_5⟩) hS2 ?r8_5
                case h8_5 => (intro wS hSw; obtain ⟨s0, s1⟩ := hSw; go_simp; all_goals (with_reducible rfl))
                simp only [Act.put, List.setIfInBounds_toArray, List.set_cons_zero, List.set_cons_succ]
                refine take_drop (i := 9) (v := ?v9_5) rfl (by kernel_rfl) (by kernel_rfl) (by kernel_rfl) (fun _ _ _ h => h) (Or.inl ⟨by rfl, ?h9_5⟩) hS2 ?r9_5
                case h9_5 => (intro wS hSw; obtain ⟨s0, s1⟩ := hSw; go_simp; all_goals (with_reducible rfl))
                simp only [Act.put, List.setIfInBounds_toArray, List.set_cons_zero, List.set_cons_succ]
                refine take_drop (i := 10) (v := ?v10_5) rfl (by kernel_rfl) (by kernel_rfl) (by kernel_rfl) (fun _ _ _ h => h) (Or.inl ⟨by rfl, ?h10_5⟩) hS2 ?r10_5
                case h10_5 => (intro wS hSw; obtain ⟨s0, s1⟩ := hSw; go_simp; all_goals (with_reducible rfl))
                simp only [Act.put, List.setIfInBounds_toArray, List.set_cons_zero, List.set_cons_succ]
                refine take_drop (i := 11) (v := ?v11_5) rfl (by kernel_rfl) (by kernel_rfl) (by kernel_rfl) (fun _ _ _ h => h) (Or.inl ⟨by rfl, ?h11_5⟩) hS2 ?r11_5
                case h11_5 => (intro wS hSw; obtain ⟨s0, s1⟩ := hSw; go_simp; all_goals (with_reducible rfl))
                simp only [Act.put, List.setIfInBounds_toArray, List.set_cons_zero, List.set_cons_succ]
                refine take_drop (i := 12) (v := ?v12_5) rfl (by kernel_rfl) (by kernel_rfl) (by kernel_rfl) (fun _ _ _ h => h) (Or.inl ⟨by rfl, ?h12_5⟩) hS2 ?r12_5
                case h12_5 => (intro wS hSw; obtain ⟨s0, s1⟩ := hSw; go_simp; all_goals (with_reducible rfl))
                simp only [Act.put, List.setIfInBounds_toArray, List.set_cons_zero, List.set_cons_succ]
                refine take_drop (i := 13) (v := undef) rfl (by kernel_rfl) (by kernel_rfl) (by kernel_rfl) (fun _ _ _ h => h) (Or.inr ⟨by rfl, rfl⟩) hS2 ?_
                simp only [Act.put, List.setIfInBounds_toArray, List.set_cons_zero, List.set_cons_succ]
                refine take_drop (i := 14) (v := undef) rfl (by kernel_rfl) (by kernel_rfl) (by kernel_rfl) (fun _ _ _ h => h) (Or.inr ⟨by rfl, rfl⟩) hS2 ?_
                simp only [Act.put, List.setIfInBounds_toArray, List.set_cons_zero, List.set_cons_succ]
                refine take_drop (i := 15) (v := undef) rfl (by kernel_rfl) (by kernel_rfl) (by kernel_rfl) (fun _ _ _ h => h) (Or.inr ⟨by rfl, rfl⟩) hS2 ?_
                simp only [Act.put, List.setIfInBounds_toArray, List.set_cons_zero, List.set_cons_succ]
                refine take_drop (i := 16) (v := undef) rfl (by kernel_rfl) (by kernel_rfl) (by kernel_rfl) (fun _ _ _ h => h) (Or.inr ⟨by rfl, rfl⟩) hS2 ?_
                simp only [Act.put, List.setIfInBounds_toArray, List.set_cons_zero, List.set_cons_succ]
                refine take_drop (i := 17) (v := undef) rfl (by kernel_rfl) (by kernel_rfl) (by kernel_rfl) (fun _ _ _ h => h) (Or.inr ⟨by rfl, rfl⟩) hS2 ?_
                simp only [Act.put, List.setIfInBounds_toArray, List.set_cons_zero, List.set_cons_succ]
                refine take_drop (i := 18) (v := undef) rfl (by kernel_rfl) (by kernel_rfl) (by kernel_rfl) (fun _ _ _ h => h) (Or.inr ⟨by rfl, rfl⟩) hS2 ?_
                simp only [Act.put, List.setIfInBounds_toArray, List.set_cons_zero, List.set_cons_succ]
                refine take_drop (i := 19) (v := undef) rfl (by kernel_rfl) (by kernel_rfl) (by kernel_rfl) (fun _ _ _ h => h) (Or.inr ⟨by rfl, rfl⟩) hS2 ?_
                simp only [Act.put, List.setIfInBounds_toArray, List.set_cons_zero, List.set_cons_succ]
                refine take_drop (i := 20) (v := undef) rfl (by kernel_rfl) (by kernel_rfl) (by kernel_rfl) (fun _ _ _ h => h) (Or.inr ⟨by rfl, rfl⟩) hS2 ?_
                simp only [Act.put, List.setIfInBounds_toArray, List.set_cons_zero, List.set_cons_succ]
                refine take_drop (i := 21) (v := undef) rfl (by kernel_rfl) (by kernel_rfl) (by kernel_rfl) (fun _ _ _ h => h) (Or.inr ⟨by rfl, rfl⟩) hS2 ?_
                simp only [Act.put, List.setIfInBounds_toArray, List.set_cons_zero, List.set_cons_succ]
                refine take_drop (i := 22) (v := undef) rfl (by kernel_rfl) (by kernel_rfl) (by kernel_rfl) (fun _ _ _ h => h) (Or.inr ⟨by rfl, rfl⟩) hS2 ?_
                simp only [Act.put, List.setIfInBounds_toArray, List.set_cons_zero, List.set_cons_succ]
                refine take_drop (i := 23) (v := undef) rfl (by kernel_rfl) (by kernel_rfl) (by kernel_rfl) (fun _ _ _ h => h) (Or.inr ⟨by rfl, rfl⟩) hS2 ?_
                simp only [Act.put, List.setIfInBounds_toArray, List.set_cons_zero, List.set_cons_succ]
                refine take_drop (i := 24) (v := undef) rfl (by kernel_rfl) (by kernel_rfl) (by kernel_rfl) (fun _ _ _ h => h) (Or.inr ⟨by rfl, rfl⟩) hS2 ?_
                simp only [Act.put, List.setIfInBounds_toArray, List.set_cons_zero, List.set_cons_succ]
                refine take_drop (i := 25) (v := undef) rfl (by kernel_rfl) (by kernel_rfl) (by kernel_rfl) (fun _ _ _ h => h) (Or.inr ⟨by rfl, rfl⟩) hS2 ?_
                simp only [Act.put, List.setIfInBounds_toArray, List.set_cons_zero, List.set_cons_succ]
                refine take_drop (i := 26) (v := undef) rfl (by kernel_rfl) (by kernel_rfl) (by kernel_rfl) (fun _ _ _ h => h) (Or.inr ⟨by rfl, rfl⟩) hS2 ?_
                simp only [Act.put, List.setIfInBounds_toArray, List.set_cons_zero, List.set_cons_succ]
                refine take_drop (i := 27) (v := undef) rfl (by kernel_rfl) (by kernel_rfl) (by kernel_rfl) (fun _ _ _ h => h) (Or.inr ⟨by rfl, rfl⟩) hS2 ?_
                simp only [Act.put, List.setIfInBounds_toArray, List.set_cons_zero, List.set_cons_succ]
                refine take_drop (i := 28) (v := undef) rfl (by kernel_rfl) (by kernel_rfl) (by kernel_rfl) (fun _ _ _ h => h) (Or.inr ⟨by rfl, rfl⟩) hS2 ?_
                simp only [Act.put, List.setIfInBounds_toArray, List.set_cons_zero, List.set_cons_succ]
                refine take_drop (i := 29) (v := undef) rfl (by kernel_rfl) (by kernel_rfl) (by kernel_rfl) (fun _ _ _ h => h) (Or.inr ⟨by rfl, rfl⟩) hS2 ?_
                simp only [Act.put, List.setIfInBounds_toArray, List.set_cons_zero, List.set_cons_succ]
                refine take_drop (i := 30) (v := undef) rfl (by kernel_rfl) (by kernel_rfl) (by kernel_rfl) (fun _ _ _ h => h) (Or.inr ⟨by rfl, rfl⟩) hS2 ?_
                simp only [Act.put, List.setIfInBounds_toArray, List.set_cons_zero, List.set_cons_succ]
                refine take_drop (i := 31) (v := ?v31_5) rfl (by kernel_rfl) (by kernel_rfl) (by kernel_rfl) (fun _ _ _ h => h) (Or.inl ⟨by rfl, ?h31_5⟩) hS2 ?r31_5
                case h31_5 => (intro wS hSw; obtain ⟨s0, s1⟩ := hSw; go_simp; all_goals (with_reducible rfl))
                simp only [Act.put, List.setIfInBounds_toArray, List.set_cons_zero, List.set_cons_succ]
                refine take_drop (i := 32) (v := ?v32_5) rfl (by kernel_rfl) (by kernel_rfl) (by kernel_rfl) (fun _ _ _ h => h) (Or.inl ⟨by rfl, ?h32_5⟩) hS2 ?r32_5
                case h32_5 => (intro wS hSw; obtain ⟨s0, s1⟩ := hSw; go_simp; all_goals (with_reducible rfl))
                simp only [Act.put, List.setIfInBounds_toArray, List.set_cons_zero, List.set_cons_succ]
                refine take_drop (i := 33) (v := ?v33_5) rfl (by kernel_rfl) (by kernel_rfl) (by kernel_rfl) (fun _ _ _ h => h) (Or.inl ⟨by rfl, ?h33_5⟩) hS2 ?r33_5
                case h33_5 => (intro wS hSw; obtain ⟨s0, s1⟩ := hSw; go_simp; all_goals (with_reducible rfl))
                simp only [Act.put, List.setIfInBounds_toArray, List.set_cons_zero, List.set_cons_succ]
                refine take_drop (i := 34) (v := ?v34_5) rfl (by kernel_rfl) (by kernel_rfl) (by kernel_rfl) (fun _ _ _ h => h) (Or.inl ⟨by rfl, ?h34_5⟩) hS2 ?r34_5
                case h34_5 => (intro wS hSw; obtain ⟨s0, s1⟩ := hSw; go_simp; all_goals (with_reducible rfl))
                simp only [Act.put, List.setIfInBounds_toArray, List.set_cons_zero, List.set_cons_succ]
                refine take_drop (i := 35) (v := ?v35_5) rfl (by kernel_rfl) (by kernel_rfl) (by kernel_rfl) (fun _ _ _ h => h) (Or.inl ⟨by rfl, ?h35_5⟩) hS2 ?r35_5
                case h35_5 => (intro wS hSw; obtain ⟨s0, s1⟩ := hSw; go_simp; all_goals (with_reducible rfl))
                simp only [Act.put, List.setIfInBounds_toArray, List.set_cons_zero, List.set_cons_succ]
                refine take_drop (i := 36) (v := ?v36_5) rfl (by kernel_rfl) (by kernel_rfl) (by kernel_rfl) (fun _ _ _ h => h) (Or.inl ⟨by rfl, ?h36_5⟩) hS2 ?r36_5
                case h36_5 => (intro wS hSw; obtain ⟨s0, s1⟩ := hSw; go_simp; all_goals (with_reducible rfl))
                simp only [Act.put, List.setIfInBounds_toArray, List.set_cons_zero, List.set_cons_succ]
                refine take_drop (i := 37) (v := ?v37_5) rfl (by kernel_rfl) (by kernel_rfl) (by kernel_rfl) (fun _ _ _ h => h) (Or.inl ⟨by rfl, ?h37_5⟩) hS2 ?r37_5
                case h37_5 => (intro wS hSw; obtain ⟨s0, s1⟩ := hSw; go_simp; all_goals (with_reducible rfl))
                simp only [Act.put, List.setIfInBounds_toArray, List.set_cons_zero, List.set_cons_succ]
                refine take_drop (i := 38) (v := ?v38_5) rfl (by kernel_rfl) (by kernel_rfl) (by kernel_rfl) (fun _ _ _ h => h) (Or.inl ⟨by rfl, ?h38_5⟩) hS2 ?r38_5
                case h38_5 => (intro wS hSw; obtain ⟨s0, s1⟩ := hSw; go_simp; all_goals (with_reducible rfl))
                simp only [Act.put, List.setIfInBounds_toArray, List.set_cons_zero, List.set_cons_succ]
                refine take_drop (i := 39) (v := ?v39_5) rfl (by kernel_rfl) (by kernel_rfl) (by kernel_rfl) (fun _ _ _ h => h) (Or.inl ⟨by rfl, ?h39_5⟩) hS2 ?r39_5
                case h39_5 => (intro wS hSw; obtain ⟨s0, s1⟩ := hSw; go_simp; all_goals (with_reducible rfl))
                simp only [Act.put, List.setIfInBounds_toArray, List.set_cons_zero, List.set_cons_succ]
                refine take_drop (i := 40) (v := ?v40_5) rfl (by kernel_rfl) (by kernel_rfl) (by kernel_rfl) (fun _ _ _ h => h) (Or.inl ⟨by rfl, ?h40_5⟩) hS2 ?r40_5
                case h40_5 => (intro wS hSw; obtain ⟨s0, s1⟩ := hSw; go_simp; all_goals (with_reducible rfl))
                simp only [Act.put, List.setIfInBounds_toArray, List.set_cons_zero, List.set_cons_succ]
                refine take_drop (i := 41) (v := ?v41_5) rfl (by kernel_rfl) (by kernel_rfl) (by kernel_rfl) (fun _ _ _ h => h) (Or.inl ⟨by rfl, ?h41_5⟩) hS2 ?r41_5
                case h41_5 => (intro wS hSw; obtain ⟨s0, s1⟩ := hSw; go_simp; all_goals (with_reducible rfl))
                simp only [Act.put, List.setIfInBounds_toArray, List.set_cons_zero, List.set_cons_succ]
                refine wpAnyH_done (by kernel_rfl) ?_ _

                go_wp2_with fail
                go_roundw
                case rel => exact ⟨j + 1, -1, X8, Y8, by simp, by omega, by first | rfl | simp | (congr 1; omega), by omega, HC10.out, HL10.out, HY8.out, HX8.out, HS10.out, HF10.out⟩
                case measure => simp [intOf]; omega
              · obtain ⟨s, rfl⟩ := Int.eq_ofNat_of_zero_le ht0
                have g2 : decide ((0 : Int) ≤ (s : Int)) = true := by rw [decide_eq_true_eq]; omega
                by_cases hz : s + 1 < m
                · have hn : s + 1 < m := hz
                  have g1 : decide ((m : Int) ≤ (s : Int) + 1) = false := by first | (rw [decide_eq_true_eq]; omega) | (rw [decide_eq_false_iff_not]; omega)
                  go_wp2_with fail
                  refine HMV.out.mono ?_
                  rintro e w8 ⟨rfl, X8, Y8, hC8, hX8, hY8, f8⟩
                  rw [show nextI L.length (s : Int) = (s : Int) + 1 by unfold nextI; rw [HML.out, if_neg (by omega), if_pos (by omega)]] at hC8
                  rw [show nextI L.length (s : Int) = (s : Int) + 1 by unfold nextI; rw [HML.out, if_neg (by omega), if_pos (by omega)]]
                  rw [show decide ((0 : Int) ≤ (s : Int) + 1) = true by first | (rw [decide_eq_true_eq]; omega) | (rw [decide_eq_false_iff_not]; omega)]
                  have HC8 := Lib.hid hC8
                  have HL8 := Lib.hid (HL7.out.keep f8 (fun k hk hy => HXr.out k hy hk))
                  have HF8 : Hid (Fr No W w8) := Lib.hid (HF7.out.then_ f8 fun k hk hy => absurd (HYr.out k hy) (by omega))
                  have HY8 : Hid (∀ k, Y8 k → W.heap.size ≤ k) := Lib.hid fun k hk => (hY8 k hk).elim (HYr.out k) (fun h => Nat.le_trans HF7.out.size h.1)
                  have HX8 : Hid (∀ k, Y8 k → ¬ XL k) := Lib.hid fun k hk h => (hY8 k hk).elim (fun hy => HXr.out k hy h) (fun hn => by
                    have h1 := HXB.out k h
                    have h2 := HSZ.out
                    have h3 := HG7.out.size
                    omega)
                  have HS8 : Hid (w6.heap.size ≤ w8.heap.size) := Lib.hid (Nat.le_trans (Nat.le_trans HSZ.out HG7.out.size) f8.size)
                  have e3 := f8.cell e1 (fun hy => HOB.out _ hy rfl)
                  clear hC8 hX8 hY8 f8 e0 e1
                  have HIT := HK.out.item HC8.out
                  rw [show itemI L ((s : Int) + 1) = L.getD (s + 1) p20 by unfold itemI; rw [if_pos (by omega)]; congr 1] at HIT
                  have HCEL : Hid (∀ w', Fr No w8 w' → ∃ g p, oa = some ⟨g, p, none⟩ ∧ w'.cell? ⟨g, p + (s + 1) * 2, none⟩ = some (.int .i64 (L.getD (s + 1) p20).1) ∧ w'.cell? ⟨g, p + (s + 1) * 2 + 1, none⟩ = some (.int .i64 (L.getD (s + 1) p20).2)) := Lib.hid fun w' f => by
                    obtain ⟨g, p, _, hg, hc⟩ := HL8.out (by rw [HML.out]; omega)
                    exact ⟨g, p, hg, f.cell (hc (s + 1) (by rw [HML.out]; exact hn)).1 (fun h => h), f.cell (hc (s + 1) (by rw [HML.out]; exact hn)).2 (fun h => h)⟩
                  generalize (L.getD (s + 1) p20).1 = xk at *
                  generalize (L.getD (s + 1) p20).2 = xv at *
                  have HIT := Lib.hid HIT
                  go_wp2_with fail
                  refine HIT.out.mono ?_
                  rintro e w9 ⟨rfl, f9⟩
                  have HC9 := HK.out.keep HC8.out f9 (fun _ _ h => h)
                  have HL9 := HL8.out.keep f9 (fun _ _ h => h)
                  have HF9 := HF8.out.trans f9
                  have fB := (Fr.refl No w9).alloc (.cells #[.int .i64 xk, .int .i64 xv] 49)
                  have x0 : (w9.alloc (.cells #[.int .i64 xk, .int .i64 xv] 49)).drew.cell? ⟨w9.heap.size, 0, none⟩ = some (.int .i64 xk) := (At.new w9 49 #[.int .i64 xk, .int .i64 xv]).cell 0
                  have x1 : (w9.alloc (.cells #[.int .i64 xk, .int .i64 xv] 49)).drew.cell? ⟨w9.heap.size, 1, none⟩ = some (.int .i64 xv) := (At.new w9 49 #[.int .i64 xk, .int .i64 xv]).cell 1
                  have HCD := Lib.hid (HK.out.keep HC9 fB.drew (fun _ _ h => h))
                  have HLD := Lib.hid (HL9.keep fB.drew (fun _ _ h => h))
                  have HFD := Lib.hid (HF9.trans fB.drew)
                  have HSD := Lib.hid (Nat.le_trans HS8.out (f9.trans fB.drew).size)
                  have HV9 := HK.out.valid HCD.out
                  rw [show decide ((0 : Int) ≤ (s : Int) + 1) = true by first | (rw [decide_eq_true_eq]; omega) | (rw [decide_eq_false_iff_not]; omega)] at HV9
                  have HV9 := Lib.hid HV9
                  have bn0 : (0 : Int) ≤ (s : Int) + 1 := by omega
                  have bn1 : (s : Int) + 1 < (m : Int) := by omega
                  obtain ⟨lg, lp, rfl, l0, l1⟩ := HCEL.out _ (f9.trans fB.drew)
                  have r1 : (xk == xk) = true := by simp
                  have r2 : (xv == xv) = true := by simp
                  have r3 : decide ((0 : Int) ≤ (s : Int) + 1) = true := by first | (rw [decide_eq_true_eq]; omega) | (rw [decide_eq_false_iff_not]; omega)
                  clear f9 HC9 HL9 HF9 fB
                  try clear e3
                  try clear e0 e1
                  go_wp2_with fail
                  refine wp_region_held_drew (S := fun w' => w'.cell? ⟨w9.heap.size, 0, none⟩ = some (.int .i64 xk) ∧ w'.cell? ⟨w9.heap.size, 1, none⟩ = some (.int .i64 xv) ∧ w'.cell? ⟨lg, lp + (s + 1) * 2, none⟩ = some (.int .i64 xk) ∧ w'.cell? ⟨lg, lp + (s + 1) * 2 + 1, none⟩ = some (.int .i64 xv)) (by kernel_rfl) ⟨x0, x1, l0, l1⟩ (fun hHeld => ?_)
                  refine take_drop (i := 0) (v := ?v0_6) rfl (by kernel_rfl) (by kernel_rfl) (by kernel_rfl) (fun _ _ _ h => h) (Or.inl ⟨by rfl, ?h0_6⟩) hHeld ?r0_6
                  case h0_6 => (intro wS hSw; obtain ⟨s0, s1, s2, s3⟩ := hSw; go_simp; all_goals (with_reducible rfl))
                  simp only [Act.put, List.setIfInBounds_toArray, List.set_cons_zero, List.set_cons_succ]
                  refine take_drop (i := 1) (v := ?v1_6) rfl (by kernel_rfl) (by kernel_rfl) (by kernel_rfl) (fun _ _ _ h => h) (Or.inl ⟨by rfl, ?h1_6⟩) hHeld ?r1_6
                  case h1_6 => (intro wS hSw; obtain ⟨s0, s1, s2, s3⟩ := hSw; go_simp; all_goals (with_reducible rfl))
                  simp only [Act.put, List.setIfInBounds_toArray, List.set_cons_zero, List.set_cons_succ]
                  refine take_drop (i := 2) (v := ?v2_6) rfl (by kernel_rfl) (by kernel_rfl) (by kernel_rfl) (fun _ _ _ h => h) (Or.inl ⟨by rfl, ?h2_6⟩) hHeld ?r2_6
                  case h2_6 => (intro wS hSw; obtain ⟨s0, s1, s2, s3⟩ := hSw; go_simp; all_goals (with_reducible rfl))
                  simp only [Act.put, List.setIfInBounds_toArray, List.set_cons_zero, List.set_cons_succ]
                  refine take_drop (i := 3) (v := ?v3_6) rfl (by kernel_rfl) (by kernel_rfl) (by kernel_rfl) (fun _ _ _ h => h) (Or.inl ⟨by rfl, ?h3_6⟩) hHeld ?r3_6
                  case h3_6 => (intro wS hSw; obtain ⟨s0, s1, s2, s3⟩ := hSw; go_simp; all_goals (with_reducible rfl))
                  simp only [Act.put, List.setIfInBounds_toArray, List.set_cons_zero, List.set_cons_succ]
                  refine take_drop (i := 4) (v := ?v4_6) rfl (by kernel_rfl) (by kernel_rfl) (by kernel_rfl) (fun _ _ _ h => h) (Or.inl ⟨by rfl, ?h4_6⟩) hHeld ?r4_6
                  case h4_6 => (intro wS hSw; obtain ⟨s0, s1, s2, s3⟩ := hSw; go_simp; all_goals (with_reducible rfl))
                  simp only [Act.put, List.setIfInBounds_toArray, List.set_cons_zero, List.set_cons_succ]
                  refine take_drop (i := 5) (v := ?v5_6) rfl (by kernel_rfl) (by kernel_rfl) (by kernel_rfl) (fun _ _ _ h => h) (Or.inl ⟨by rfl, ?h5_6⟩) hHeld ?r5_6
                  case h5_6 => (intro wS hSw; obtain ⟨s0, s1, s2, s3⟩ := hSw; go_simp; all_goals (with_reducible rfl))
                  simp only [Act.put, List.setIfInBounds_toArray, List.set_cons_zero, List.set_cons_succ]
                  refine take_drop (i := 7) (v := ?v7_6) rfl (by kernel_rfl) (by kernel_rfl) (by kernel_rfl) (fun _ _ _ h => h) (Or.inl ⟨by rfl, ?h7_6⟩) hHeld ?r7_6
                  case h7_6 => (intro wS hSw; obtain ⟨s0, s1, s2, s3⟩ := hSw; go_simp; all_goals (with_reducible rfl))
                  simp only [Act.put, List.setIfInBounds_toArray, List.set_cons_zero, List.set_cons_succ]
                  refine wpAnyH_ready (rs := [6]) (by kernel_rfl) (by simp) ?_
                  refine do_drop (i := 6) rfl (fun K hK => ?_) AllReadyH.nil
                  go_simp
                  refine HV9.out.mono ?_
                  rintro e w10 ⟨rfl, f10⟩
                  have y0 := f10.cell x0 (fun h => h)
                  have y1 := f10.cell x1 (fun h => h)
                  have y2 := f10.cell l0 (fun h => h)
                  have y3 := f10.cell l1 (fun h => h)
                  have HC10 := Lib.hid (HK.out.keep HCD.out f10 (fun _ _ h => h))
                  have HL10 := Lib.hid (HLD.out.keep f10 (fun _ _ h => h))
                  have HF10 := Lib.hid (HFD.out.trans f10)
                  have HS10 := Lib.hid (Nat.le_trans HSD.out f10.size)
                  clear f10 hHeld
                  refine hK.out _ _ ⟨y0, y1, y2, y3⟩ ?_
                  clear hK K
                  try simp only [Act.put, List.setIfInBounds_toArray, List.set_cons_zero, List.set_cons_succ]
                  have hS2 := And.intro y0 (And.intro y1 (And.intro y2 y3))
                  refine take_drop (i := 8) (v := ?v8_6) rfl (by kernel_rfl) (by kernel_rfl) (by kernel_rfl) (fun _ _ _ h => h) (Or.inl ⟨by rfl, ?h8_6⟩) hS2 ?r8_6
                  case h8_6 => (intro wS hSw; obtain ⟨s0, s1, s2, s3⟩ := hSw; go_simp; all_goals (with_reducible rfl))
                  simp only [Act.put, List.setIfInBounds_toArray, List.set_cons_zero, List.set_cons_succ]
                  refine take_drop (i := 9) (v := ?v9_6) rfl (by kernel_rfl) (by kernel_rfl) (by kernel_rfl) (fun _ _ _ h => h) (Or.inl ⟨by rfl, ?h9_6⟩) hS2 ?r9_6
                  case h9_6 => (intro wS hSw; obtain ⟨s0, s1, s2, s3⟩ := hSw; go_simp; all_goals (with_reducible rfl))
                  simp only [Act.put, List.setIfInBounds_toArray, List.set_cons_zero, List.set_cons_succ]
                  refine take_drop (i := 10) (v := ?v10_6) rfl (by kernel_rfl) (by kernel_rfl) (by kernel_rfl) (fun _ _ _ h => h) (Or.inl ⟨by rfl, ?h10_6⟩) hS2 ?r10_6
                  case h10_6 => (intro wS hSw; obtain ⟨s0, s1, s2, s3⟩ := hSw; go_simp; all_goals (with_reducible rfl))
                  simp only [Act.put, List.setIfInBounds_toArray, List.set_cons_zero, List.set_cons_succ]
                  refine take_drop (i := 11) (v := ?v11_6) rfl (by kernel_rfl) (by kernel_rfl) (by kernel_rfl) (fun _ _ _ h => h) (Or.inl ⟨by rfl, ?h11_6⟩) hS2 ?r11_6
                  case h11_6 => (intro wS hSw; obtain ⟨s0, s1, s2, s3⟩ := hSw; go_simp; all_goals (with_reducible rfl))
                  simp only [Act.put, List.setIfInBounds_toArray, List.set_cons_zero, List.set_cons_succ]
                  refine take_drop (i := 12) (v := ?v12_6) rfl (by kernel_rfl) (by kernel_rfl) (by kernel_rfl) (fun _ _ _ h => h) (Or.inl ⟨by rfl, ?h12_6⟩) hS2 ?r12_6
                  case h12_6 => (intro wS hSw; obtain ⟨s0, s1, s2, s3⟩ := hSw; go_simp; all_goals (with_reducible rfl))
                  simp only [Act.put, List.setIfInBounds_toArray, List.set_cons_zero, List.set_cons_succ]
                  refine take_drop (i := 13) (v := ?v13_6) rfl (by kernel_rfl) (by kernel_rfl) (by kernel_rfl) (fun _ _ _ h => h) (Or.inl ⟨by rfl, ?h13_6⟩) hS2 ?r13_6
                  case h13_6 => (intro wS hSw; obtain ⟨s0, s1, s2, s3⟩ := hSw; go_simp; all_goals (with_reducible rfl))
                  simp only [Act.put, List.setIfInBounds_toArray, List.set_cons_zero, List.set_cons_succ]
                  refine take_drop (i := 14) (v := ?v14_6) rfl (by kernel_rfl) (by kernel_rfl) (by kernel_rfl) (fun _ _ _ h => h) (Or.inl ⟨by rfl, ?h14_6⟩) hS2 ?r14_6
                  case h14_6 => (intro wS hSw; obtain ⟨s0, s1, s2, s3⟩ := hSw; go_simp; all_goals (with_reducible rfl))
                  simp only [Act.put, List.setIfInBounds_toArray, List.set_cons_zero, List.set_cons_succ]
                  refine take_drop (i := 15) (v := ?v15_6) rfl (by kernel_rfl) (by kernel_rfl) (by kernel_rfl) (fun _ _ _ h => h) (Or.inl ⟨by rfl, ?h15_6⟩) hS2 ?r15_6
                  case h15_6 => (intro wS hSw; obtain ⟨s0, s1, s2, s3⟩ := hSw; go_simp; all_goals (with_reducible rfl))
                  simp only [Act.put, List.setIfInBounds_toArray, List.set_cons_zero, List.set_cons_succ]
                  refine take_drop (i := 16) (v := ?v16_6) rfl (by kernel_rfl) (by kernel_rfl) (by kernel_rfl) (fun _ _ _ h => h) (Or.inl ⟨by rfl, ?h16_6⟩) hS2 ?r16_6
                  case h16_6 => (intro wS hSw; obtain ⟨s0, s1, s2, s3⟩ := hSw; go_simp; all_goals (with_reducible rfl))
                  simp only [Act.put, List.setIfInBounds_toArray, List.set_cons_zero, List.set_cons_succ]
                  refine take_drop (i := 17) (v := ?v17_6) rfl (by kernel_rfl) (by kernel_rfl) (by kernel_rfl) (fun _ _ _ h => h) (Or.inl ⟨by rfl, ?h17_6⟩) hS2 ?r17_6
                  case h17_6 => (intro wS hSw; obtain ⟨s0, s1, s2, s3⟩ := hSw; go_simp; all_goals (with_reducible rfl))
                  simp only [Act.put, List.setIfInBounds_toArray, List.set_cons_zero, List.set_cons_succ]
                  refine take_drop (i := 18) (v := ?v18_6) rfl (by kernel_rfl) (by kernel_rfl) (by kernel_rfl) (fun _ _ _ h => h) (Or.inl ⟨by rfl, ?h18_6⟩) hS2 ?r18_6
                  case h18_6 => (intro wS hSw; obtain ⟨s0, s1, s2, s3⟩ := hSw; go_simp; all_goals (with_reducible rfl))
                  simp only [Act.put, List.setIfInBounds_toArray, List.set_cons_zero, List.set_cons_succ]
                  refine take_drop (i := 19) (v := ?v19_6) rfl (by kernel_rfl) (by kernel_rfl) (by kernel_rfl) (fun _ _ _ h => h) (Or.inl ⟨by rfl, ?h19_6⟩) hS2 ?r19_6
                  case h19_6 => (intro wS hSw; obtain ⟨s0, s1, s2, s3⟩ := hSw; go_simp; all_goals (with_reducible rfl))
                  simp only [Act.put, List.setIfInBounds_toArray, List.set_cons_zero, List.set_cons_succ]
                  refine take_drop (i := 20) (v := ?v20_6) rfl (by kernel_rfl) (by kernel_rfl) (by kernel_rfl) (fun _ _ _ h => h) (Or.inl ⟨by rfl, ?h20_6⟩) hS2 ?r20_6
                  case h20_6 => (intro wS hSw; obtain ⟨s0, s1, s2, s3⟩ := hSw; go_simp; all_goals (with_reducible rfl))
                  simp only [Act.put, List.setIfInBounds_toArray, List.set_cons_zero, List.set_cons_succ]
                  refine take_drop (i := 21) (v := ?v21_6) rfl (by kernel_rfl) (by kernel_rfl) (by kernel_rfl) (fun _ _ _ h => h) (Or.inl ⟨by rfl, ?h21_6⟩) hS2 ?r21_6
                  case h21_6 => (intro wS hSw; obtain ⟨s0, s1, s2, s3⟩ := hSw; go_simp; all_goals (with_reducible rfl))
                  simp only [Act.put, List.setIfInBounds_toArray, List.set_cons_zero, List.set_cons_succ]
                  refine take_drop (i := 22) (v := ?v22_6) rfl (by kernel_rfl) (by kernel_rfl) (by kernel_rfl) (fun _ _ _ h => h) (Or.inl ⟨by rfl, ?h22_6⟩) hS2 ?r22_6
                  case h22_6 => (intro wS hSw; obtain ⟨s0, s1, s2, s3⟩ := hSw; go_simp; all_goals (with_reducible rfl))
                  simp only [Act.put, List.setIfInBounds_toArray, List.set_cons_zero, List.set_cons_succ]
                  refine take_drop (i := 23) (v := ?v23_6) rfl (by kernel_rfl) (by kernel_rfl) (by kernel_rfl) (fun _ _ _ h => h) (Or.inl ⟨by rfl, ?h23_6⟩) hS2 ?r23_6
                  case h23_6 => (intro wS hSw; obtain ⟨s0, s1, s2, s3⟩ := hSw; go_simp; all_goals (with_reducible rfl))
                  simp only [Act.put, List.setIfInBounds_toArray, List.set_cons_zero, List.set_cons_succ]
                  refine take_drop (i := 24) (v := ?v24_6) rfl (by kernel_rfl) (by kernel_rfl) (by kernel_rfl) (fun _ _ _ h => h) (Or.inl ⟨by rfl, ?h24_6⟩) hS2 ?r24_6
                  case h24_6 => (intro wS hSw; obtain ⟨s0, s1, s2, s3⟩ := hSw; go_simp; all_goals (with_reducible rfl))
                  simp only [Act.put, List.setIfInBounds_toArray, List.set_cons_zero, List.set_cons_succ]
                  refine take_drop (i := 25) (v := ?v25_6) rfl (by kernel_rfl) (by kernel_rfl) (by kernel_rfl) (fun _ _ _ h => h) (Or.inl ⟨by rfl, ?h25_6⟩) hS2 ?r25_6
                  case h25_6 => (intro wS hSw; obtain ⟨s0, s1, s2, s3⟩ := hSw; go_simp; all_goals (with_reducible rfl))
                  simp only [Act.put, List.setIfInBounds_toArray, List.set_cons_zero, List.set_cons_succ]
                  refine take_drop (i := 26) (v := ?v26_6) rfl (by kernel_rfl) (by kernel_rfl) (by kernel_rfl) (fun _ _ _ h => h) (Or.inl ⟨by rfl, ?h26_6⟩) hS2 ?r26_6
                  case h26_6 => (intro wS hSw; obtain ⟨s0, s1, s2, s3⟩ := hSw; go_simp; all_goals (with_reducible rfl))
                  simp only [Act.put, List.setIfInBounds_toArray, List.set_cons_zero, List.set_cons_succ]
                  refine take_drop (i := 27) (v := ?v27_6) rfl (by kernel_rfl) (by kernel_rfl) (by kernel_rfl) (fun _ _ _ h => h) (Or.inl ⟨by rfl, ?h27_6⟩) hS2 ?r27_6
                  case h27_6 => (intro wS hSw; obtain ⟨s0, s1, s2, s3⟩ := hSw; go_simp; all_goals (with_reducible rfl))
                  simp only [Act.put, List.setIfInBounds_toArray, List.set_cons_zero, List.set_cons_succ]
                  refine take_drop (i := 28) (v := ?v28_6) rfl (by kernel_rfl) (by kernel_rfl) (by kernel_rfl) (fun _ _ _ h => h) (Or.inl ⟨by rfl, ?h28_6⟩) hS2 ?r28_6
                  case h28_6 => (intro wS hSw; obtain ⟨s0, s1, s2, s3⟩ := hSw; go_simp; all_goals (with_reducible rfl))
                  simp only [Act.put, List.setIfInBounds_toArray, List.set_cons_zero, List.set_cons_succ]
                  refine take_drop (i := 29) (v := ?v29_6) rfl (by kernel_rfl) (by kernel_rfl) (by kernel_rfl) (fun _ _ _ h => h) (Or.inl ⟨by rfl, ?h29_6⟩) hS2 ?r29_6
                  case h29_6 => (intro wS hSw; obtain ⟨s0, s1, s2, s3⟩ := hSw; go_simp; all_goals (with_reducible rfl))
                  simp only [Act.put, List.setIfInBounds_toArray, List.set_cons_zero, List.set_cons_succ]
                  refine take_drop (i := 30) (v := ?v30_6) rfl (by kernel_rfl) (by kernel_rfl) (by kernel_rfl) (fun _ _ _ h => h) (Or.inl ⟨by rfl, ?h30_6⟩) hS2 ?r30_6
                  case h30_6 => (intro wS hSw; obtain ⟨s0, s1, s2, s3⟩ := hSw; go_simp; all_goals (with_reducible rfl))
                  simp only [Act.put, List.setIfInBounds_toArray, List.set_cons_zero, List.set_cons_succ]
                  refine take_drop (i := 31) (v := ?v31_6) rfl (by kernel_rfl) (by kernel_rfl) (by kernel_rfl) (fun _ _ _ h => h) (Or.inl ⟨by rfl, ?h31_6⟩) hS2 ?r31_6
                  case h31_6 => (intro wS hSw; obtain ⟨s0, s1, s2, s3⟩ := hSw; go_simp; all_goals (with_reducible rfl))
                  simp only [Act.put, List.setIfInBounds_toArray, List.set_cons_zero, List.set_cons_succ]
                  refine take_drop (i := 32) (v := ?v32_6) rfl (by kernel_rfl) (by kernel_rfl) (by kernel_rfl) (fun _ _ _ h => h) (Or.inl ⟨by rfl, ?h32_6⟩) hS2 ?r32_6
                  case h32_6 => (intro wS hSw; obtain ⟨s0, s1, s2, s3⟩ := hSw; go_simp; all_goals (with_reducible rfl))
                  simp only [Act.put, List.setIfInBounds_toArray, List.set_cons_zero, List.set_cons_succ]
                  refine take_drop (i := 33) (v := ?v33_6) rfl (by kernel_rfl) (by kernel_rfl) (by kernel_rfl) (fun _ _ _ h => h) (Or.inl ⟨by rfl, ?h33_6⟩) hS2 ?r33_6
                  case h33_6 => (intro wS hSw; obtain ⟨s0, s1, s2, s3⟩ := hSw; go_simp; all_goals (with_reducible rfl))
                  simp only [Act.put, List.setIfInBounds_toArray, List.set_cons_zero, List.set_cons_succ]
                  refine take_drop (i := 34) (v := ?v34_6) rfl (by kernel_rfl) (by kernel_rfl) (by kernel_rfl) (fun _ _ _ h => h) (Or.inl ⟨by rfl, ?h34_6⟩) hS2 ?r34_6
                  case h34_6 => (intro wS hSw; obtain ⟨s0, s1, s2, s3⟩ := hSw; go_simp; all_goals (with_reducible rfl))
                  simp only [Act.put, List.setIfInBounds_toArray, List.set_cons_zero, List.set_cons_succ]
                  refine take_drop (i := 35) (v := ?v35_6) rfl (by kernel_rfl) (by kernel_rfl) (by kernel_rfl) (fun _ _ _ h => h) (Or.inl ⟨by rfl, ?h35_6⟩) hS2 ?r35_6
                  case h35_6 => (intro wS hSw; obtain ⟨s0, s1, s2, s3⟩ := hSw; go_simp; all_goals (with_reducible rfl))
                  simp only [Act.put, List.setIfInBounds_toArray, List.set_cons_zero, List.set_cons_succ]
                  refine take_drop (i := 36) (v := ?v36_6) rfl (by kernel_rfl) (by kernel_rfl) (by kernel_rfl) (fun _ _ _ h => h) (Or.inl ⟨by rfl, ?h36_6⟩) hS2 ?r36_6
                  case h36_6 => (intro wS hSw; obtain ⟨s0, s1, s2, s3⟩ := hSw; go_simp; all_goals (with_reducible rfl))
                  simp only [Act.put, List.setIfInBounds_toArray, List.set_cons_zero, List.set_cons_succ]
                  refine take_drop (i := 37) (v := undef) rfl (by kernel_rfl) (by kernel_rfl) (by kernel_rfl) (fun _ _ _ h => h) (Or.inr ⟨by rfl, rfl⟩) hS2 ?_
                  simp only [Act.put, List.setIfInBounds_toArray, List.set_cons_zero, List.set_cons_succ]
                  refine take_drop (i := 38) (v := undef) rfl (by kernel_rfl) (by kernel_rfl) (by kernel_rfl) (fun _ _ _ h => h) (Or.inr ⟨by rfl, rfl⟩) hS2 ?_
                  simp only [Act.put, List.setIfInBounds_toArray, List.set_cons_zero, List.set_cons_succ]
                  refine take_drop (i := 39) (v := undef) rfl (by kernel_rfl) (by kernel_rfl) (by kernel_rfl) (fun _ _ _ h => h) (Or.inr ⟨by rfl, rfl⟩) hS2 ?_
                  simp only [Act.put, List.setIfInBounds_toArray, List.set_cons_zero, List.set_cons_succ]
                  refine take_drop (i := 40) (v := ?v40_6) rfl (by kernel_rfl) (by kernel_rfl) (by kernel_rfl) (fun _ _ _ h => h) (Or.inl ⟨by rfl, ?h40_6⟩) hS2 ?r40_6
                  case h40_6 => (intro wS hSw; obtain ⟨s0, s1, s2, s3⟩ := hSw; go_simp; all_goals (with_reducible rfl))
                  simp only [Act.put, List.setIfInBounds_toArray, List.set_cons_zero, List.set_cons_succ]
                  refine take_drop (i := 41) (v := ?v41_6) rfl (by kernel_rfl) (by kernel_rfl) (by kernel_rfl) (fun _ _ _ h => h) (Or.inl ⟨by rfl, ?h41_6⟩) hS2 ?r41_6
                  case h41_6 => (intro wS hSw; obtain ⟨s0, s1, s2, s3⟩ := hSw; go_simp; all_goals (with_reducible rfl))
                  simp only [Act.put, List.setIfInBounds_toArray, List.set_cons_zero, List.set_cons_succ]
                  refine wpAnyH_done (by kernel_rfl) ?_ _

                  go_wp2_with fail
                  go_roundw
                  case rel => exact ⟨j + 1, (s : Int) + 1, X8, Y8, by simp, by omega, by first | rfl | simp | (congr 1; omega), by omega, HC10.out, HL10.out, HY8.out, HX8.out, HS10.out, HF10.out⟩
                  case measure => simp [intOf]; omega
                · have g1 : decide ((m : Int) ≤ (s : Int) + 1) = true := by first | (rw [decide_eq_true_eq]; omega) | (rw [decide_eq_false_iff_not]; omega)
                  go_wp2_with fail
                  refine HMV.out.mono ?_
                  rintro e w8 ⟨rfl, X8, Y8, hC8, hX8, hY8, f8⟩
                  rw [show nextI L.length (s : Int) = -1 by unfold nextI; rw [HML.out, if_neg (by omega), if_neg (by omega)]] at hC8
                  rw [show nextI L.length (s : Int) = -1 by unfold nextI; rw [HML.out, if_neg (by omega), if_neg (by omega)]]
                  rw [show decide ((0 : Int) ≤ -1) = false by first | (rw [decide_eq_true_eq]; omega) | (rw [decide_eq_false_iff_not]; omega)]
                  have HC8 := Lib.hid hC8
                  have HL8 := Lib.hid (HL7.out.keep f8 (fun k hk hy => HXr.out k hy hk))
                  have HF8 : Hid (Fr No W w8) := Lib.hid (HF7.out.then_ f8 fun k hk hy => absurd (HYr.out k hy) (by omega))
                  have HY8 : Hid (∀ k, Y8 k → W.heap.size ≤ k) := Lib.hid fun k hk => (hY8 k hk).elim (HYr.out k) (fun h => Nat.le_trans HF7.out.size h.1)
                  have HX8 : Hid (∀ k, Y8 k → ¬ XL k) := Lib.hid fun k hk h => (hY8 k hk).elim (fun hy => HXr.out k hy h) (fun hn => by
                    have h1 := HXB.out k h
                    have h2 := HSZ.out
                    have h3 := HG7.out.size
                    omega)
                  have HS8 : Hid (w6.heap.size ≤ w8.heap.size) := Lib.hid (Nat.le_trans (Nat.le_trans HSZ.out HG7.out.size) f8.size)
                  have e3 := f8.cell e1 (fun hy => HOB.out _ hy rfl)
                  clear hC8 hX8 hY8 f8 e0 e1
                  have HIT := HK.out.item HC8.out
                  rw [show itemI L (-1) = (0, 0) by unfold itemI; rw [if_neg (by omega)]] at HIT
                  have HIT := Lib.hid HIT
                  go_wp2_with fail
                  refine HIT.out.mono ?_
                  rintro e w9 ⟨rfl, f9⟩
                  have HC9 := HK.out.keep HC8.out f9 (fun _ _ h => h)
                  have HL9 := HL8.out.keep f9 (fun _ _ h => h)
                  have HF9 := HF8.out.trans f9
                  have fB := (Fr.refl No w9).alloc (.cells #[.int .i64 0, .int .i64 0] 49)
                  have x0 : (w9.alloc (.cells #[.int .i64 0, .int .i64 0] 49)).drew.cell? ⟨w9.heap.size, 0, none⟩ = some (.int .i64 0) := (At.new w9 49 #[.int .i64 0, .int .i64 0]).cell 0
                  have x1 : (w9.alloc (.cells #[.int .i64 0, .int .i64 0] 49)).drew.cell? ⟨w9.heap.size, 1, none⟩ = some (.int .i64 0) := (At.new w9 49 #[.int .i64 0, .int .i64 0]).cell 1
                  have HCD := Lib.hid (HK.out.keep HC9 fB.drew (fun _ _ h => h))
                  have HLD := Lib.hid (HL9.keep fB.drew (fun _ _ h => h))
                  have HFD := Lib.hid (HF9.trans fB.drew)
                  have HSD := Lib.hid (Nat.le_trans HS8.out (f9.trans fB.drew).size)
                  have HV9 := HK.out.valid HCD.out
                  rw [show decide ((0 : Int) ≤ -1) = false by first | (rw [decide_eq_true_eq]; omega) | (rw [decide_eq_false_iff_not]; omega)] at HV9
                  have HV9 := Lib.hid HV9
                  have r3 : decide ((0 : Int) ≤ -1) = false := by first | (rw [decide_eq_true_eq]; omega) | (rw [decide_eq_false_iff_not]; omega)
                  clear f9 HC9 HL9 HF9 fB
                  try clear e3
                  try clear e0 e1
                  go_wp2_with fail
                  refine wp_region_held_drew (S := fun w' => w'.cell? ⟨w9.heap.size, 0, none⟩ = some (.int .i64 0) ∧ w'.cell? ⟨w9.heap.size, 1, none⟩ = some (.int .i64 0)) (by kernel_rfl) ⟨x0, x1⟩ (fun hHeld => ?_)
                  refine take_drop (i := 0) (v := ?v0_7) rfl (by kernel_rfl) (by kernel_rfl) (by kernel_rfl) (fun _ _ _ h => h) (Or.inl ⟨by rfl, ?h0_7⟩) hHeld ?r0_7
                  case h0_7 => (intro wS hSw; obtain ⟨s0, s1⟩ := hSw; go_simp; all_goals (with_reducible rfl))
                  simp only [Act.put, List.setIfInBounds_toArray, List.set_cons_zero, List.set_cons_succ]
                  refine take_drop (i := 1) (v := ?v1_7) rfl (by kernel_rfl) (by kernel_rfl) (by kernel_rfl) (fun _ _ _ h => h) (Or.inl ⟨by rfl, ?h1_7⟩) hHeld ?r1_7
                  case h1_7 => (intro wS hSw; obtain ⟨s0, s1⟩ := hSw; go_simp; all_goals (with_reducible rfl))
                  simp only [Act.put, List.setIfInBounds_toArray, List.set_cons_zero, List.set_cons_succ]
                  refine take_drop (i := 2) (v := ?v2_7) rfl (by kernel_rfl) (by kernel_rfl) (by kernel_rfl) (fun _ _ _ h => h) (Or.inl ⟨by rfl, ?h2_7⟩) hHeld ?r2_7
                  case h2_7 => (intro wS hSw; obtain ⟨s0, s1⟩ := hSw; go_simp; all_goals (with_reducible rfl))
                  simp only [Act.put, List.setIfInBounds_toArray, List.set_cons_zero, List.set_cons_succ]
                  refine take_drop (i := 3) (v := ?v3_7) rfl (by kernel_rfl) (by kernel_rfl) (by kernel_rfl) (fun _ _ _ h => h) (Or.inl ⟨by rfl, ?h3_7⟩) hHeld ?r3_7
                  case h3_7 => (intro wS hSw; obtain ⟨s0, s1⟩ := hSw; go_simp; all_goals (with_reducible rfl))
                  simp only [Act.put, List.setIfInBounds_toArray, List.set_cons_zero, List.set_cons_succ]
                  refine take_drop (i := 4) (v := ?v4_7) rfl (by kernel_rfl) (by kernel_rfl) (by kernel_rfl) (fun _ _ _ h => h) (Or.inl ⟨by rfl, ?h4_7⟩) hHeld ?r4_7
                  case h4_7 => (intro wS hSw; obtain ⟨s0, s1⟩ := hSw; go_simp; all_goals (with_reducible rfl))
                  simp only [Act.put, List.setIfInBounds_toArray, List.set_cons_zero, List.set_cons_succ]
                  refine take_drop (i := 5) (v := ?v5_7) rfl (by kernel_rfl) (by kernel_rfl) (by kernel_rfl) (fun _ _ _ h => h) (Or.inl ⟨by rfl, ?h5_7⟩) hHeld ?r5_7
                  case h5_7 => (intro wS hSw; obtain ⟨s0, s1⟩ := hSw; go_simp; all_goals (with_reducible rfl))
                  simp only [Act.put, List.setIfInBounds_toArray, List.set_cons_zero, List.set_cons_succ]
                  refine take_drop (i := 7) (v := ?v7_7) rfl (by kernel_rfl) (by kernel_rfl) (by kernel_rfl) (fun _ _ _ h => h) (Or.inl ⟨by rfl, ?h7_7⟩) hHeld ?r7_7
                  case h7_7 => (intro wS hSw; obtain ⟨s0, s1⟩ := hSw; go_simp; all_goals (with_reducible rfl))
                  simp only [Act.put, List.setIfInBounds_toArray, List.set_cons_zero, List.set_cons_succ]
                  refine wpAnyH_ready (rs := [6]) (by kernel_rfl) (by simp) ?_
                  refine do_drop (i := 6) rfl (fun K hK => ?_) AllReadyH.nil
                  go_simp
                  refine HV9.out.mono ?_
                  rintro e w10 ⟨rfl, f10⟩
                  have y0 := f10.cell x0 (fun h => h)
                  have y1 := f10.cell x1 (fun h => h)
                  have HC10 := Lib.hid (HK.out.keep HCD.out f10 (fun _ _ h => h))
                  have HL10 := Lib.hid (HLD.out.keep f10 (fun _ _ h => h))
                  have HF10 := Lib.hid (HFD.out.trans f10)
                  have HS10 := Lib.hid (Nat.le_trans HSD.out f10.size)
                  clear f10 hHeld
                  refine hK.out _ _ ⟨y0, y1⟩ ?_
                  clear hK K
                  try simp only [Act.put, List.setIfInBounds_toArray, List.set_cons_zero, List.set_cons_succ]
                  have hS2 := And.intro y0 y1
                  refine take_drop (i := 8) (v := ?v8_7) rfl (by kernel_rfl) (by kernel_rfl) (by kernel_rfl) (fun _ _ _ h => h) (Or.inl ⟨by rfl, ?h8_7⟩) hS2 ?r8_7
                  case h8_7 => (intro wS hSw; obtain ⟨s0, s1⟩ := hSw; go_simp; all_goals (with_reducible rfl))
                  simp only [Act.put, List.setIfInBounds_toArray, List.set_cons_zero, List.set_cons_succ]
                  refine take_drop (i := 9) (v := ?v9_7) rfl (by kernel_rfl) (by kernel_rfl) (by kernel_rfl) (fun _ _ _ h => h) (Or.inl ⟨by rfl, ?h9_7⟩) hS2 ?r9_7
                  case h9_7 => (intro wS hSw; obtain ⟨s0, s1⟩ := hSw; go_simp; all_goals (with_reducible rfl))
                  simp only [Act.put, List.setIfInBounds_toArray, List.set_cons_zero, List.set_cons_succ]
                  refine take_drop (i := 10) (v := ?v10_7) rfl (by kernel_rfl) (by kernel_rfl) (by kernel_rfl) (fun _ _ _ h => h) (Or.inl ⟨by rfl, ?h10_7⟩) hS2 ?r10_7
                  case h10_7 => (intro wS hSw; obtain ⟨s0, s1⟩ := hSw; go_simp; all_goals (with_reducible rfl))
                  simp only [Act.put, List.setIfInBounds_toArray, List.set_cons_zero, List.set_cons_succ]
                  refine take_drop (i := 11) (v := ?v11_7) rfl (by kernel_rfl) (by kernel_rfl) (by kernel_rfl) (fun _ _ _ h => h) (Or.inl ⟨by rfl, ?h11_7⟩) hS2 ?r11_7
                  case h11_7 => (intro wS hSw; obtain ⟨s0, s1⟩ := hSw; go_simp; all_goals (with_reducible rfl))
                  simp only [Act.put, List.setIfInBounds_toArray, List.set_cons_zero, List.set_cons_succ]
                  refine take_drop (i := 12) (v := ?v12_7) rfl (by kernel_rfl) (by kernel_rfl) (by kernel_rfl) (fun _ _ _ h => h) (Or.inl ⟨by rfl, ?h12_7⟩) hS2 ?r12_7
                  case h12_7 => (intro wS hSw; obtain ⟨s0, s1⟩ := hSw; go_simp; all_goals (with_reducible rfl))
                  simp only [Act.put, List.setIfInBounds_toArray, List.set_cons_zero, List.set_cons_succ]
                  refine take_drop (i := 13) (v := undef) rfl (by kernel_rfl) (by kernel_rfl) (by kernel_rfl) (fun _ _ _ h => h) (Or.inr ⟨by rfl, rfl⟩) hS2 ?_
                  simp only [Act.put, List.setIfInBounds_toArray, List.set_cons_zero, List.set_cons_succ]
                  refine take_drop (i := 14) (v := undef) rfl (by kernel_rfl) (by kernel_rfl) (by kernel_rfl) (fun _ _ _ h => h) (Or.inr ⟨by rfl, rfl⟩) hS2 ?_
                  simp only [Act.put, List.setIfInBounds_toArray, List.set_cons_zero, List.set_cons_succ]
                  refine take_drop (i := 15) (v := undef) rfl (by kernel_rfl) (by kernel_rfl) (by kernel_rfl) (fun _ _ _ h => h) (Or.inr ⟨by rfl, rfl⟩) hS2 ?_
                  simp only [Act.put, List.setIfInBounds_toArray, List.set_cons_zero, List.set_cons_succ]
                  refine take_drop (i := 16) (v := undef) rfl (by kernel_rfl) (by kernel_rfl) (by kernel_rfl) (fun _ _ _ h => h) (Or.inr ⟨by rfl, rfl⟩) hS2 ?_
                  simp only [Act.put, List.setIfInBounds_toArray, List.set_cons_zero, List.set_cons_succ]
                  refine take_drop (i := 17) (v := undef) rfl (by kernel_rfl) (by kernel_rfl) (by kernel_rfl) (fun _ _ _ h => h) (Or.inr ⟨by rfl, rfl⟩) hS2 ?_
                  simp only [Act.put, List.setIfInBounds_toArray, List.set_cons_zero, List.set_cons_succ]
                  refine take_drop (i := 18) (v := undef) rfl (by kernel_rfl) (by kernel_rfl) (by kernel_rfl) (fun _ _ _ h => h) (Or.inr ⟨by rfl, rfl⟩) hS2 ?_
                  simp only [Act.put, List.setIfInBounds_toArray, List.set_cons_zero, List.set_cons_succ]
                  refine take_drop (i := 19) (v := undef) rfl (by kernel_rfl) (by kernel_rfl) (by kernel_rfl) (fun _ _ _ h => h) (Or.inr ⟨by rfl, rfl⟩) hS2 ?_
                  simp only [Act.put, List.setIfInBounds_toArray, List.set_cons_zero, List.set_cons_succ]
                  refine take_drop (i := 20) (v := undef) rfl (by kernel_rfl) (by kernel_rfl) (by kernel_rfl) (fun _ _ _ h => h) (Or.inr ⟨by rfl, rfl⟩) hS2 ?_
                  simp only [Act.put, List.setIfInBounds_toArray, List.set_cons_zero, List.set_cons_succ]
                  refine take_drop (i := 21) (v := undef) rfl (by kernel_rfl) (by kernel_rfl) (by kernel_rfl) (fun _ _ _ h => h) (Or.inr ⟨by rfl, rfl⟩) hS2 ?_
                  simp only [Act.put, List.setIfInBounds_toArray, List.set_cons_zero, List.set_cons_succ]
                  refine take_drop (i := 22) (v := undef) rfl (by kernel_rfl) (by kernel_rfl) (by kernel_rfl) (fun _ _ _ h => h) (Or.inr ⟨by rfl, rfl⟩) hS2 ?_
                  simp only [Act.put, List.setIfInBounds_toArray, List.set_cons_zero, List.set_cons_succ]
                  refine take_drop (i := 23) (v := undef) rfl (by kernel_rfl) (by kernel_rfl) (by kernel_rfl) (fun _ _ _ h => h) (Or.inr ⟨by rfl, rfl⟩) hS2 ?_
                  simp only [Act.put, List.setIfInBounds_toArray, List.set_cons_zero, List.set_cons_succ]
                  refine take_drop (i := 24) (v := undef) rfl (by kernel_rfl) (by kernel_rfl) (by kernel_rfl) (fun _ _ _ h => h) (Or.inr ⟨by rfl, rfl⟩) hS2 ?_
                  simp only [Act.put, List.setIfInBounds_toArray, List.set_cons_zero, List.set_cons_succ]
                  refine take_drop (i := 25) (v := undef) rfl (by kernel_rfl) (by kernel_rfl) (by kernel_rfl) (fun _ _ _ h => h) (Or.inr ⟨by rfl, rfl⟩) hS2 ?_
                  simp only [Act.put, List.setIfInBounds_toArray, List.set_cons_zero, List.set_cons_succ]
                  refine take_drop (i := 26) (v := undef) rfl (by kernel_rfl) (by kernel_rfl) (by kernel_rfl) (fun _ _ _ h => h) (Or.inr ⟨by rfl, rfl⟩) hS2 ?_
                  simp only [Act.put, List.setIfInBounds_toArray, List.set_cons_zero, List.set_cons_succ]
                  refine take_drop (i := 27) (v := undef) rfl (by kernel_rfl) (by kernel_rfl) (by kernel_rfl) (fun _ _ _ h => h) (Or.inr ⟨by rfl, rfl⟩) hS2 ?_
                  simp only [Act.put, List.setIfInBounds_toArray, List.set_cons_zero, List.set_cons_succ]
                  refine take_drop (i := 28) (v := undef) rfl (by kernel_rfl) (by kernel_rfl) (by kernel_rfl) (fun _ _ _ h => h) (Or.inr ⟨by rfl, rfl⟩) hS2 ?_
                  simp only [Act.put, List.setIfInBounds_toArray, List.set_cons_zero, List.set_cons_succ]
                  refine take_drop (i := 29) (v := undef) rfl (by kernel_rfl) (by kernel_rfl) (by kernel_rfl) (fun _ _ _ h => h) (Or.inr ⟨by rfl, rfl⟩) hS2 ?_
                  simp only [Act.put, List.setIfInBounds_toArray, List.set_cons_zero, List.set_cons_succ]
                  refine take_drop (i := 30) (v := undef) rfl (by kernel_rfl) (by kernel_rfl) (by kernel_rfl) (fun _ _ _ h => h) (Or.inr ⟨by rfl, rfl⟩) hS2 ?_
                  simp only [Act.put, List.setIfInBounds_toArray, List.set_cons_zero, List.set_cons_succ]
                  refine take_drop (i := 31) (v := ?v31_7) rfl (by kernel_rfl) (by kernel_rfl) (by kernel_rfl) (fun _ _ _ h => h) (Or.inl ⟨by rfl, ?h31_7⟩) hS2 ?r31_7
                  case h31_7 => (intro wS hSw; obtain ⟨s0, s1⟩ := hSw; go_simp; all_goals (with_reducible rfl))
                  simp only [Act.put, List.setIfInBounds_toArray, List.set_cons_zero, List.set_cons_succ]
                  refine take_drop (i := 32) (v := ?v32_7) rfl (by kernel_rfl) (by kernel_rfl) (by kernel_rfl) (fun _ _ _ h => h) (Or.inl ⟨by rfl, ?h32_7⟩) hS2 ?r32_7
                  case h32_7 => (intro wS hSw; obtain ⟨s0, s1⟩ := hSw; go_simp; all_goals (with_reducible rfl))
                  simp only [Act.put, List.setIfInBounds_toArray, List.set_cons_zero, List.set_cons_succ]
                  refine take_drop (i := 33) (v := ?v33_7) rfl (by kernel_rfl) (by kernel_rfl) (by kernel_rfl) (fun _ _ _ h => h) (Or.inl ⟨by rfl, ?h33_7⟩) hS2 ?r33_7
                  case h33_7 => (intro wS hSw; obtain ⟨s0, s1⟩ := hSw; go_simp; all_goals (with_reducible rfl))
                  simp only [Act.put, List.setIfInBounds_toArray, List.set_cons_zero, List.set_cons_succ]
                  refine take_drop (i := 34) (v := ?v34_7) rfl (by kernel_rfl) (by kernel_rfl) (by kernel_rfl) (fun _ _ _ h => h) (Or.inl ⟨by rfl, ?h34_7⟩) hS2 ?r34_7
                  case h34_7 => (intro wS hSw; obtain ⟨s0, s1⟩ := hSw; go_simp; all_goals (with_reducible rfl))
                  simp only [Act.put, List.setIfInBounds_toArray, List.set_cons_zero, List.set_cons_succ]
                  refine take_drop (i := 35) (v := ?v35_7) rfl (by kernel_rfl) (by kernel_rfl) (by kernel_rfl) (fun _ _ _ h => h) (Or.inl ⟨by rfl, ?h35_7⟩) hS2 ?r35_7
                  case h35_7 => (intro wS hSw; obtain ⟨s0, s1⟩ := hSw; go_simp; all_goals (with_reducible rfl))
                  simp only [Act.put, List.setIfInBounds_toArray, List.set_cons_zero, List.set_cons_succ]
                  refine take_drop (i := 36) (v := ?v36_7) rfl (by kernel_rfl) (by kernel_rfl) (by kernel_rfl) (fun _ _ _ h => h) (Or.inl ⟨by rfl, ?h36_7⟩) hS2 ?r36_7
                  case h36_7 => (intro wS hSw; obtain ⟨s0, s1⟩ := hSw; go_simp; all_goals (with_reducible rfl))
                  simp only [Act.put, List.setIfInBounds_toArray, List.set_cons_zero, List.set_cons_succ]
                  refine take_drop (i := 37) (v := ?v37_7) rfl (by kernel_rfl) (by kernel_rfl) (by kernel_rfl) (fun _ _ _ h => h) (Or.inl ⟨by rfl, ?h37_7⟩) hS2 ?r37_7
                  case h37_7 => (intro wS hSw; obtain ⟨s0, s1⟩ := hSw; go_simp; all_goals (with_reducible rfl))
                  simp only [Act.put, List.setIfInBounds_toArray, List.set_cons_zero, List.set_cons_succ]
                  refine take_drop (i := 38) (v := ?v38_7) rfl (by kernel_rfl) (by kernel_rfl) (by kernel_rfl) (fun _ _ _ h => h) (Or.inl ⟨by rfl, ?h38_7⟩) hS2 ?r38_7
                  case h38_7 => (intro wS hSw; obtain ⟨s0, s1⟩ := hSw; go_simp; all_goals (with_reducible rfl))
                  simp only [Act.put, List.setIfInBounds_toArray, List.set_cons_zero, List.set_cons_succ]
                  refine take_drop (i := 39) (v := ?v39_7) rfl (by kernel_rfl) (by kernel_rfl) (by kernel_rfl) (fun _ _ _ h => h) (Or.inl ⟨by rfl, ?h39_7⟩) hS2 ?r39_7
                  case h39_7 => (intro wS hSw; obtain ⟨s0, s1⟩ := hSw; go_simp; all_goals (with_reducible rfl))
                  simp only [Act.put, List.setIfInBounds_toArray, List.set_cons_zero, List.set_cons_succ]
                  refine take_drop (i := 40) (v := ?v40_7) rfl (by kernel_rfl) (by kernel_rfl) (by kernel_rfl) (fun _ _ _ h => h) (Or.inl ⟨by rfl, ?h40_7⟩) hS2 ?r40_7
                  case h40_7 => (intro wS hSw; obtain ⟨s0, s1⟩ := hSw; go_simp; all_goals (with_reducible rfl))
                  simp only [Act.put, List.setIfInBounds_toArray, List.set_cons_zero, List.set_cons_succ]
                  refine take_drop (i := 41) (v := ?v41_7) rfl (by kernel_rfl) (by kernel_rfl) (by kernel_rfl) (fun _ _ _ h => h) (Or.inl ⟨by rfl, ?h41_7⟩) hS2 ?r41_7
                  case h41_7 => (intro wS hSw; obtain ⟨s0, s1⟩ := hSw; go_simp; all_goals (with_reducible rfl))
                  simp only [Act.put, List.setIfInBounds_toArray, List.set_cons_zero, List.set_cons_succ]
                  refine wpAnyH_done (by kernel_rfl) ?_ _

                  go_wp2_with fail
                  go_roundw
                  case rel => exact ⟨j + 1, -1, X8, Y8, by simp, by omega, by first | rfl | simp | (congr 1; omega), by omega, HC10.out, HL10.out, HY8.out, HX8.out, HS10.out, HF10.out⟩
                  case measure => simp [intOf]; omega
          by_cases hk4 : kd = 4
          · as_aux_lemma =>
              have hkd : kd = 4 := hk4
              subst hkd
              clear hk1 hk2 hk3 hk4
              have HMV := Lib.hid (HK.out.prev HC7.out)
              rcases htb with rfl | ⟨ht0, ht1⟩
              · have g2 : max (-2 : Int) (-1) = -1 := by decide
                have g1 : decide ((m : Int) ≤ -1) = false := by first | (rw [decide_eq_true_eq]; omega) | (rw [decide_eq_false_iff_not]; omega)
                go_wp2_with fail
                refine HMV.out.mono ?_
                rintro e w8 ⟨rfl, X8, Y8, hC8, hX8, hY8, f8⟩
                rw [show prevI (-1) = -1 from rfl] at hC8
                rw [show prevI (-1) = -1 from rfl]
                rw [show decide ((0 : Int) ≤ -1) = false by first | (rw [decide_eq_true_eq]; omega) | (rw [decide_eq_false_iff_not]; omega)]
                have HC8 := Lib.hid hC8
                have HL8 := Lib.hid (HL7.out.keep f8 (fun k hk hy => HXr.out k hy hk))
                have HF8 : Hid (Fr No W w8) := Lib.hid (HF7.out.then_ f8 fun k hk hy => absurd (HYr.out k hy) (by omega))
                have HY8 : Hid (∀ k, Y8 k → W.heap.size ≤ k) := Lib.hid fun k hk => (hY8 k hk).elim (HYr.out k) (fun h => Nat.le_trans HF7.out.size h.1)
                have HX8 : Hid (∀ k, Y8 k → ¬ XL k) := Lib.hid fun k hk h => (hY8 k hk).elim (fun hy => HXr.out k hy h) (fun hn => by
                  have h1 := HXB.out k h
                  have h2 := HSZ.out
                  have h3 := HG7.out.size
                  omega)
                have HS8 : Hid (w6.heap.size ≤ w8.heap.size) := Lib.hid (Nat.le_trans (Nat.le_trans HSZ.out HG7.out.size) f8.size)
                have e3 := f8.cell e1 (fun hy => HOB.out _ hy rfl)
                clear hC8 hX8 hY8 f8 e0 e1
                have HIT := HK.out.item HC8.out
                rw [show itemI L (-1) = (0, 0) by unfold itemI; rw [if_neg (by omega)]] at HIT
                have HIT := Lib.hid HIT
                go_wp2_with fail
                refine HIT.out.mono ?_
                rintro e w9 ⟨rfl, f9⟩
                have HC9 := HK.out.keep HC8.out f9 (fun _ _ h => h)
                have HL9 := HL8.out.keep f9 (fun _ _ h => h)
                have HF9 := HF8.out.trans f9
                have fB := (Fr.refl No w9).alloc (.cells #[.int .i64 0, .int .i64 0] 49)
                have x0 : (w9.alloc (.cells #[.int .i64 0, .int .i64 0] 49)).drew.cell? ⟨w9.heap.size, 0, none⟩ = some (.int .i64 0) := (At.new w9 49 #[.int .i64 0, .int .i64 0]).cell 0
                have x1 : (w9.alloc (.cells #[.int .i64 0, .int .i64 0] 49)).drew.cell? ⟨w9.heap.size, 1, none⟩ = some (.int .i64 0) := (At.new w9 49 #[.int .i64 0, .int .i64 0]).cell 1
                have HCD := Lib.hid (HK.out.keep HC9 fB.drew (fun _ _ h => h))
                have HLD := Lib.hid (HL9.keep fB.drew (fun _ _ h => h))
                have HFD := Lib.hid (HF9.trans fB.drew)
                have HSD := Lib.hid (Nat.le_trans HS8.out (f9.trans fB.drew).size)
                have HV9 := HK.out.valid HCD.out
                rw [show decide ((0 : Int) ≤ -1) = false by first | (rw [decide_eq_true_eq]; omega) | (rw [decide_eq_false_iff_not]; omega)] at HV9
                have HV9 := Lib.hid HV9
                have r3 : decide ((0 : Int) ≤ -1) = false := by first | (rw [decide_eq_true_eq]; omega) | (rw [decide_eq_false_iff_not]; omega)
                clear f9 HC9 HL9 HF9 fB
                try clear e3
                try clear e0 e1
                go_wp2_with fail
                refine wp_region_held_drew (S := fun w' => w'.cell? ⟨w9.heap.size, 0, none⟩ = some (.int .i64 0) ∧ w'.cell? ⟨w9.heap.size, 1, none⟩ = some (.int .i64 0)) (by kernel_rfl) ⟨x0, x1⟩ (fun hHeld => ?_)
                refine take_drop (i := 0) (v := ?v0_8) rfl (by kernel_rfl) (by kernel_rfl) (by kernel_rfl) (fun _ _ _ h => h) (Or.inl ⟨by rfl, ?h0_8⟩) hHeld ?r0_8
                case h0_8 => (intro wS hSw; obtain ⟨s0, s1⟩ := hSw; go_simp; all_goals (with_reducible rfl))
                simp only [Act.put, List.setIfInBounds_toArray, List.set_cons_zero, List.set_cons_succ]
                refine take_drop (i := 1) (v := ?v1_8) rfl (by kernel_rfl) (by kernel_rfl) (by kernel_rfl) (fun _ _ _ h => h) (Or.inl ⟨by rfl, ?h1_8⟩) hHeld ?r1_8
                case h1_8 => (intro wS hSw; obtain ⟨s0, s1⟩ := hSw; go_simp; all_goals (with_reducible rfl))
                simp only [Act.put, List.setIfInBounds_toArray, List.set_cons_zero, List.set_cons_succ]
                refine take_drop (i := 2) (v := ?v2_8) rfl (by kernel_rfl) (by kernel_rfl) (by kernel_rfl) (fun _ _ _ h => h) (Or.inl ⟨by rfl, ?h2_8⟩) hHeld ?r2_8
                case h2_8 => (intro wS hSw; obtain ⟨s0, s1⟩ := hSw; go_simp; all_goals (with_reducible rfl))
                simp only [Act.put, List.setIfInBounds_toArray, List.set_cons_zero, List.set_cons_succ]
                refine take_drop (i := 3) (v := ?v3_8) rfl (by kernel_rfl) (by kernel_rfl) (by kernel_rfl) (fun _ _ _ h => h) (Or.inl ⟨by rfl, ?h3_8⟩) hHeld ?r3_8
                case h3_8 => (intro wS hSw; obtain ⟨s0, s1⟩ := hSw; go_simp; all_goals (with_reducible rfl))
                simp only [Act.put, List.setIfInBounds_toArray, List.set_cons_zero, List.set_cons_succ]
                refine take_drop (i := 4) (v := ?v4_8) rfl (by kernel_rfl) (by kernel_rfl) (by kernel_rfl) (fun _ _ _ h => h) (Or.inl ⟨by rfl, ?h4_8⟩) hHeld ?r4_8
                case h4_8 => (intro wS hSw; obtain ⟨s0, s1⟩ := hSw; go_simp; all_goals (with_reducible rfl))
                simp only [Act.put, List.setIfInBounds_toArray, List.set_cons_zero, List.set_cons_succ]
                refine take_drop (i := 5) (v := ?v5_8) rfl (by kernel_rfl) (by kernel_rfl) (by kernel_rfl) (fun _ _ _ h => h) (Or.inl ⟨by rfl, ?h5_8⟩) hHeld ?r5_8
                case h5_8 => (intro wS hSw; obtain ⟨s0, s1⟩ := hSw; go_simp; all_goals (with_reducible rfl))
                simp only [Act.put, List.setIfInBounds_toArray, List.set_cons_zero, List.set_cons_succ]
                refine take_drop (i := 7) (v := ?v7_8) rfl (by kernel_rfl) (by kernel_rfl) (by kernel_rfl) (fun _ _ _ h => h) (Or.inl ⟨by rfl, ?h7_8⟩) hHeld ?r7_8
                case h7_8 => (intro wS hSw; obtain ⟨s0, s1⟩ := hSw; go_simp; all_goals (with_reducible rfl))
                simp only [Act.put, List.setIfInBounds_toArray, List.set_cons_zero, List.set_cons_succ]
                refine wpAnyH_ready (rs := [6]) (by kernel_rfl) (by simp) ?_
                refine do_drop (i := 6) rfl (fun K hK => ?_) AllReadyH.nil
                go_simp
                refine HV9.out.mono ?_
                rintro e w10 ⟨rfl, f10⟩
                have y0 := f10.cell x0 (fun h => h)
                have y1 := f10.cell x1 (fun h => h)
                have HC10 := Lib.hid (HK.out.keep HCD.out f10 (fun _ _ h => h))
                have HL10 := Lib.hid (HLD.out.keep f10 (fun _ _ h => h))
                have HF10 := Lib.hid (HFD.out.trans f10)
                have HS10 := Lib.hid (Nat.le_trans HSD.out f10.size)
                clear f10 hHeld
                refine hK.out _ _ ⟨y0, y1⟩ ?_
                clear hK K
                try simp only [Act.put, List.setIfInBounds_toArray, List.set_cons_zero, List.set_cons_succ]
                have hS2 := And.intro y0 y1
                refine take_drop (i := 8) (v := ?v8_8) rfl (by kernel_rfl) (by kernel_rfl) (by kernel_rfl) (fun _ _ _ h => h) (Or.inl ⟨by rfl, ?h8_8⟩) hS2 ?r8_8
                case h8_8 => (intro wS hSw; obtain ⟨s0, s1⟩ := hSw; go_simp; all_goals (with_reducible rfl))
                simp only [Act.put, List.setIfInBounds_toArray, List.set_cons_zero, List.set_cons_succ]
                refine take_drop (i := 9) (v := ?v9_8) rfl (by kernel_rfl) (by kernel_rfl) (by kernel_rfl) (fun _ _ _ h => h) (Or.inl ⟨by rfl, ?h9_8⟩) hS2 ?r9_8
                case h9_8 => (intro wS hSw; obtain ⟨s0, s1⟩ := hSw; go_simp; all_goals (with_reducible rfl))
                simp only [Act.put, List.setIfInBounds_toArray, List.set_cons_zero, List.set_cons_succ]
                refine take_drop (i := 10) (v := ?v10_8) rfl (by kernel_rfl) (by kernel_rfl) (by kernel_rfl) (fun _ _ _ h => h) (Or.inl ⟨by rfl, ?h10_8⟩) hS2 ?r10_8
                case h10_8 => (intro wS hSw; obtain ⟨s0, s1⟩ := hSw; go_simp; all_goals (with_reducible rfl))
                simp only [Act.put, List.setIfInBounds_toArray, List.set_cons_zero, List.set_cons_succ]
                refine take_drop (i := 11) (v := ?v11_8) rfl (by kernel_rfl) (by kernel_rfl) (by kernel_rfl) (fun _ _ _ h => h) (Or.inl ⟨by rfl, ?h11_8⟩) hS2 ?r11_8
                case h11_8 => (intro wS hSw; obtain ⟨s0, s1⟩ := hSw; go_simp; all_goals (with_reducible rfl))
                simp only [Act.put, List.setIfInBounds_toArray, List.set_cons_zero, List.set_cons_succ]
                refine take_drop (i := 12) (v := ?v12_8) rfl (by kernel_rfl) (by kernel_rfl) (by kernel_rfl) (fun _ _ _ h => h) (Or.inl ⟨by rfl, ?h12_8⟩) hS2 ?r12_8
                case h12_8 => (intro wS hSw; obtain ⟨s0, s1⟩ := hSw; go_simp; all_goals (with_reducible rfl))
                simp only [Act.put, List.setIfInBounds_toArray, List.set_cons_zero, List.set_cons_succ]
                refine take_drop (i := 13) (v := undef) rfl (by kernel_rfl) (by kernel_rfl) (by kernel_rfl) (fun _ _ _ h => h) (Or.inr ⟨by rfl, rfl⟩) hS2 ?_
                simp only [Act.put, List.setIfInBounds_toArray, List.set_cons_zero, List.set_cons_succ]
                refine take_drop (i := 14) (v := undef) rfl (by kernel_rfl) (by kernel_rfl) (by kernel_rfl) (fun _ _ _ h => h) (Or.inr ⟨by rfl, rfl⟩) hS2 ?_
                simp only [Act.put, List.setIfInBounds_toArray, List.set_cons_zero, List.set_cons_succ]
                refine take_drop (i := 15) (v := undef) rfl (by kernel_rfl) (by kernel_rfl) (by kernel_rfl) (fun _ _ _ h => h) (Or.inr ⟨by rfl, rfl⟩) hS2 ?_
                simp only [Act.put, List.setIfInBounds_toArray, List.set_cons_zero, List.set_cons_succ]
                refine take_drop (i := 16) (v := undef) rfl (by kernel_rfl) (by kernel_rfl) (by kernel_rfl) (fun _ _ _ h => h) (Or.inr ⟨by rfl, rfl⟩) hS2 ?_
                simp only [Act.put, List.setIfInBounds_toArray, List.set_cons_zero, List.set_cons_succ]
                refine take_drop (i := 17) (v := undef) rfl (by kernel_rfl) (by kernel_rfl) (by kernel_rfl) (fun _ _ _ h => h) (Or.inr ⟨by rfl, rfl⟩) hS2 ?_
                simp only [Act.put, List.setIfInBounds_toArray, List.set_cons_zero, List.set_cons_succ]
                refine take_drop (i := 18) (v := undef) rfl (by kernel_rfl) (by kernel_rfl) (by kernel_rfl) (fun _ _ _ h => h) (Or.inr ⟨by rfl, rfl⟩) hS2 ?_
                simp only [Act.put, List.setIfInBounds_toArray, List.set_cons_zero, List.set_cons_succ]
                refine take_drop (i := 19) (v := undef) rfl (by kernel_rfl) (by kernel_rfl) (by kernel_rfl) (fun _ _ _ h => h) (Or.inr ⟨by rfl, rfl⟩) hS2 ?_
                simp only [Act.put, List.setIfInBounds_toArray, List.set_cons_zero, List.set_cons_succ]
                refine take_drop (i := 20) (v := undef) rfl (by kernel_rfl) (by kernel_rfl) (by kernel_rfl) (fun _ _ _ h => h) (Or.inr ⟨by rfl, rfl⟩) hS2 ?_
                simp only [Act.put, List.setIfInBounds_toArray, List.set_cons_zero, List.set_cons_succ]
                refine take_drop (i := 21) (v := undef) rfl (by kernel_rfl) (by kernel_rfl) (by kernel_rfl) (fun _ _ _ h => h) (Or.inr ⟨by rfl, rfl⟩) hS2 ?_
                simp only [Act.put, List.setIfInBounds_toArray, List.set_cons_zero, List.set_cons_succ]
                refine take_drop (i := 22) (v := undef) rfl (by kernel_rfl) (by kernel_rfl) (by kernel_rfl) (fun _ _ _ h => h) (Or.inr ⟨by rfl, rfl⟩) hS2 ?_
                simp only [Act.put, List.setIfInBounds_toArray, List.set_cons_zero, List.set_cons_succ]
                refine take_drop (i := 23) (v := undef) rfl (by kernel_rfl) (by kernel_rfl) (by kernel_rfl) (fun _ _ _ h => h) (Or.inr ⟨by rfl, rfl⟩) hS2 ?_
                simp only [Act.put, List.setIfInBounds_toArray, List.set_cons_zero, List.set_cons_succ]
                refine take_drop (i := 24) (v := undef) rfl (by kernel_rfl) (by kernel_rfl) (by kernel_rfl) (fun _ _ _ h => h) (Or.inr ⟨by rfl, rfl⟩) hS2 ?_
                simp only [Act.put, List.setIfInBounds_toArray, List.set_cons_zero, List.set_cons_succ]
                refine take_drop (i := 25) (v := undef) rfl (by kernel_rfl) (by kernel_rfl) (by kernel_rfl) (fun _ _ _ h => h) (Or.inr ⟨by rfl, rfl⟩) hS2 ?_
                simp only [Act.put, List.setIfInBounds_toArray, List.set_cons_zero, List.set_cons_succ]
                refine take_drop (i := 26) (v := undef) rfl (by kernel_rfl) (by kernel_rfl) (by kernel_rfl) (fun _ _ _ h => h) (Or.inr ⟨by rfl, rfl⟩) hS2 ?_
                simp only [Act.put, List.setIfInBounds_toArray, List.set_cons_zero, List.set_cons_succ]
                refine take_drop (i := 27) (v := undef) rfl (by kernel_rfl) (by kernel_rfl) (by kernel_rfl) (fun _ _ _ h => h) (Or.inr ⟨by rfl, rfl⟩) hS2 ?_
                simp only [Act.put, List.setIfInBounds_toArray, List.set_cons_zero, List.set_cons_succ]
                refine take_drop (i := 28) (v := undef) rfl (by kernel_rfl) (by kernel_rfl) (by kernel_rfl) (fun _ _ _ h => h) (Or.inr ⟨by rfl, rfl⟩) hS2 ?_
                simp only [Act.put, List.setIfInBounds_toArray, List.set_cons_zero, List.set_cons_succ]
                refine take_drop (i := 29) (v := undef) rfl (by kernel_rfl) (by kernel_rfl) (by kernel_rfl) (fun _ _ _ h => h) (Or.inr ⟨by rfl, rfl⟩) hS2 ?_
                simp only [Act.put, List.setIfInBounds_toArray, List.set_cons_zero, List.set_cons_succ]
                refine take_drop (i := 30) (v := undef) rfl (by kernel_rfl) (by kernel_rfl) (by kernel_rfl) (fun _ _ _ h => h) (Or.inr ⟨by rfl, rfl⟩) hS2 ?_
                simp only [Act.put, List.setIfInBounds_toArray, List.set_cons_zero, List.set_cons_succ]
                refine take_drop (i := 31) (v := ?v31_8) rfl (by kernel_rfl) (by kernel_rfl) (by kernel_rfl) (fun _ _ _ h => h) (Or.inl ⟨by rfl, ?h31_8⟩) hS2 ?r31_8
                case h31_8 => (intro wS hSw; obtain ⟨s0, s1⟩ := hSw; go_simp; all_goals (with_reducible rfl))
                simp only [Act.put, List.setIfInBounds_toArray, List.set_cons_zero, List.set_cons_succ]
                refine take_drop (i := 32) (v := ?v32_8) rfl (by kernel_rfl) (by kernel_rfl) (by kernel_rfl) (fun _ _ _ h => h) (Or.inl ⟨by rfl, ?h32_8⟩) hS2 ?r32_8
                case h32_8 => (intro wS hSw; obtain ⟨s0, s1⟩ := hSw; go_simp; all_goals (with_reducible rfl))
                simp only [Act.put, List.setIfInBounds_toArray, List.set_cons_zero, List.set_cons_succ]
                refine take_drop (i := 33) (v := ?v33_8) rfl (by kernel_rfl) (by kernel_rfl) (by kernel_rfl) (fun _ _ _ h => h) (Or.inl ⟨by rfl, ?h33_8⟩) hS2 ?r33_8
                case h33_8 => (intro wS hSw; obtain ⟨s0, s1⟩ := hSw; go_simp; all_goals (with_reducible rfl))
                simp only [Act.put, List.setIfInBounds_toArray, List.set_cons_zero, List.set_cons_succ]
                refine take_drop (i := 34) (v := ?v34_8) rfl (by kernel_rfl) (by kernel_rfl) (by kernel_rfl) (fun _ _ _ h => h) (Or.inl ⟨by rfl, ?h34_8⟩) hS2 ?r34_8
                case h34_8 => (intro wS hSw; obtain ⟨s0, s1⟩ := hSw; go_simp; all_goals (with_reducible rfl))
                simp only [Act.put, List.setIfInBounds_toArray, List.set_cons_zero, List.set_cons_succ]
                refine take_drop (i := 35) (v := ?v35_8) rfl (by kernel_rfl) (by kernel_rfl) (by kernel_rfl) (fun _ _ _ h => h) (Or.inl ⟨by rfl, ?h35_8⟩) hS2 ?r35_8
                case h35_8 => (intro wS hSw; obtain ⟨s0, s1⟩ := hSw; go_simp; all_goals (with_reducible rfl))
                simp only [Act.put, List.setIfInBounds_toArray, List.set_cons_zero, List.set_cons_succ]
                refine take_drop (i := 36) (v := ?v36_8) rfl (by kernel_rfl) (by kernel_rfl) (by kernel_rfl) (fun _ _ _ h => h) (Or.inl ⟨by rfl, ?h36_8⟩) hS2 ?r36_8
                case h36_8 => (intro wS hSw; obtain ⟨s0, s1⟩ := hSw; go_simp; all_goals (with_reducible rfl))
                simp only [Act.put, List.setIfInBounds_toArray, List.set_cons_zero, List.set_cons_succ]
                refine take_drop (i := 37) (v := ?v37_8) rfl (by kernel_rfl) (by kernel_rfl) (by kernel_rfl) (fun _ _ _ h => h) (Or.inl ⟨by rfl, ?h37_8⟩) hS2 ?r37_8
                case h37_8 => (intro wS hSw; obtain ⟨s0, s1⟩ := hSw; go_simp; all_goals (with_reducible rfl))
                simp only [Act.put, List.setIfInBounds_toArray, List.set_cons_zero, List.set_cons_succ]
                refine take_drop (i := 38) (v := ?v38_8) rfl (by kernel_rfl) (by kernel_rfl) (by kernel_rfl) (fun _ _ _ h => h) (Or.inl ⟨by rfl, ?h38_8⟩) hS2 ?r38_8
                case h38_8 => (intro wS hSw; obtain ⟨s0, s1⟩ := hSw; go_simp; all_goals (with_reducible rfl))
                simp only [Act.put, List.setIfInBounds_toArray, List.set_cons_zero, List.set_cons_succ]
                refine take_drop (i := 39) (v := ?v39_8) rfl (by kernel_rfl) (by kernel_rfl) (by kernel_rfl) (fun _ _ _ h => h) (Or.inl ⟨by rfl, ?h39_8⟩) hS2 ?r39_8
                case h39_8 => (intro wS hSw; obtain ⟨s0, s1⟩ := hSw; go_simp; all_goals (with_reducible rfl))
                simp only [Act.put, List.setIfInBounds_toArray, List.set_cons_zero, List.set_cons_succ]
                refine take_drop (i := 40) (v := ?v40_8) rfl (by kernel_rfl) (by kernel_rfl) (by kernel_rfl) (fun _ _ _ h => h) (Or.inl ⟨by rfl, ?h40_8⟩) hS2 ?r40_8
                case h40_8 => (intro wS hSw; obtain ⟨s0, s1⟩ := hSw; go_simp; all_goals (with_reducible rfl))
                simp only [Act.put, List.setIfInBounds_toArray, List.set_cons_zero, List.set_cons_succ]
                refine take_drop (i := 41) (v := ?v41_8) rfl (by kernel_rfl) (by kernel_rfl) (by kernel_rfl) (fun _ _ _ h => h) (Or.inl ⟨by rfl, ?h41_8⟩) hS2 ?r41_8
                case h41_8 => (intro wS hSw; obtain ⟨s0, s1⟩ := hSw; go_simp; all_goals (with_reducible rfl))
                simp only [Act.put, List.setIfInBounds_toArray, List.set_cons_zero, List.set_cons_succ]
                refine wpAnyH_done (by kernel_rfl) ?_ _

                go_wp2_with fail
                go_roundw
                case rel => exact ⟨j + 1, -1, X8, Y8, by simp, by omega, by first | rfl | simp | (congr 1; omega), by omega, HC10.out, HL10.out, HY8.out, HX8.out, HS10.out, HF10.out⟩
                case measure => simp [intOf]; omega
              · obtain ⟨s, rfl⟩ := Int.eq_ofNat_of_zero_le ht0
                cases s with
                | zero =>
                  have g2 : max (-1 : Int) (-1) = -1 := by decide
                  have g1 : decide ((m : Int) ≤ -1) = false := by first | (rw [decide_eq_true_eq]; omega) | (rw [decide_eq_false_iff_not]; omega)
                  go_wp2_with fail
                  refine HMV.out.mono ?_
                  rintro e w8 ⟨rfl, X8, Y8, hC8, hX8, hY8, f8⟩
                  rw [show prevI ((0 : Nat) : Int) = -1 from rfl] at hC8
                  rw [show prevI ((0 : Nat) : Int) = -1 from rfl]
                  rw [show decide ((0 : Int) ≤ -1) = false by first | (rw [decide_eq_true_eq]; omega) | (rw [decide_eq_false_iff_not]; omega)]
                  have HC8 := Lib.hid hC8
                  have HL8 := Lib.hid (HL7.out.keep f8 (fun k hk hy => HXr.out k hy hk))
                  have HF8 : Hid (Fr No W w8) := Lib.hid (HF7.out.then_ f8 fun k hk hy => absurd (HYr.out k hy) (by omega))
                  have HY8 : Hid (∀ k, Y8 k → W.heap.size ≤ k) := Lib.hid fun k hk => (hY8 k hk).elim (HYr.out k) (fun h => Nat.le_trans HF7.out.size h.1)
                  have HX8 : Hid (∀ k, Y8 k → ¬ XL k) := Lib.hid fun k hk h => (hY8 k hk).elim (fun hy => HXr.out k hy h) (fun hn => by
                    have h1 := HXB.out k h
                    have h2 := HSZ.out
                    have h3 := HG7.out.size
                    omega)
                  have HS8 : Hid (w6.heap.size ≤ w8.heap.size) := Lib.hid (Nat.le_trans (Nat.le_trans HSZ.out HG7.out.size) f8.size)
                  have e3 := f8.cell e1 (fun hy => HOB.out _ hy rfl)
                  clear hC8 hX8 hY8 f8 e0 e1
                  have HIT := HK.out.item HC8.out
                  rw [show itemI L (-1) = (0, 0) by unfold itemI; rw [if_neg (by omega)]] at HIT
                  have HIT := Lib.hid HIT
                  go_wp2_with fail
                  refine HIT.out.mono ?_
                  rintro e w9 ⟨rfl, f9⟩
                  have HC9 := HK.out.keep HC8.out f9 (fun _ _ h => h)
                  have HL9 := HL8.out.keep f9 (fun _ _ h => h)
                  have HF9 := HF8.out.trans f9
                  have fB := (Fr.refl No w9).alloc (.cells #[.int .i64 0, .int .i64 0] 49)
                  have x0 : (w9.alloc (.cells #[.int .i64 0, .int .i64 0] 49)).drew.cell? ⟨w9.heap.size, 0, none⟩ = some (.int .i64 0) := (At.new w9 49 #[.int .i64 0, .int .i64 0]).cell 0
                  have x1 : (w9.alloc (.cells #[.int .i64 0, .int .i64 0] 49)).drew.cell? ⟨w9.heap.size, 1, none⟩ = some (.int .i64 0) := (At.new w9 49 #[.int .i64 0, .int .i64 0]).cell 1
                  have HCD := Lib.hid (HK.out.keep HC9 fB.drew (fun _ _ h => h))
                  have HLD := Lib.hid (HL9.keep fB.drew (fun _ _ h => h))
                  have HFD := Lib.hid (HF9.trans fB.drew)
                  have HSD := Lib.hid (Nat.le_trans HS8.out (f9.trans fB.drew).size)
                  have HV9 := HK.out.valid HCD.out
                  rw [show decide ((0 : Int) ≤ -1) = false by first | (rw [decide_eq_true_eq]; omega) | (rw [decide_eq_false_iff_not]; omega)] at HV9
                  have HV9 := Lib.hid HV9
                  have r3 : decide ((0 : Int) ≤ -1) = false := by first | (rw [decide_eq_true_eq]; omega) | (rw [decide_eq_false_iff_not]; omega)
                  clear f9 HC9 HL9 HF9 fB
                  try clear e3
                  try clear e0 e1
                  go_wp2_with fail
                  refine wp_region_held_drew (S := fun w' => w'.cell? ⟨w9.heap.size, 0, none⟩ = some (.int .i64 0) ∧ w'.cell? ⟨w9.heap.size, 1, none⟩ = some (.int .i64 0)) (by kernel_rfl) ⟨x0, x1⟩ (fun hHeld => ?_)
                  refine take_drop (i := 0) (v := ?v0_9) rfl (by kernel_rfl) (by kernel_rfl) (by kernel_rfl) (fun _ _ _ h => h) (Or.inl ⟨by rfl, ?h0_9⟩) hHeld ?r0_9
                  case h0_9 => (intro wS hSw; obtain ⟨s0, s1⟩ := hSw; go_simp; all_goals (with_reducible rfl))
                  simp only [Act.put, List.setIfInBounds_toArray, List.set_cons_zero, List.set_cons_succ]
                  refine take_drop (i := 1) (v := ?v1_9) rfl (by kernel_rfl) (by kernel_rfl) (by kernel_rfl) (fun _ _ _ h => h) (Or.inl ⟨by rfl, ?h1_9⟩) hHeld ?r1_9
                  case h1_9 => (intro wS hSw; obtain ⟨s0, s1⟩ := hSw; go_simp; all_goals (with_reducible rfl))
                  simp only [Act.put, List.setIfInBounds_toArray, List.set_cons_zero, List.set_cons_succ]
                  refine take_drop (i := 2) (v := ?v2_9) rfl (by kernel_rfl) (by kernel_rfl) (by kernel_rfl) (fun _ _ _ h => h) (Or.inl ⟨by rfl, ?h2_9⟩) hHeld ?r2_9
                  case h2_9 => (intro wS hSw; obtain ⟨s0, s1⟩ := hSw; go_simp; all_goals (with_reducible rfl))
                  simp only [Act.put, List.setIfInBounds_toArray, List.set_cons_zero, List.set_cons_succ]
                  refine take_drop (i := 3) (v := ?v3_9) rfl (by kernel_rfl) (by kernel_rfl) (by kernel_rfl) (fun _ _ _ h => h) (Or.inl ⟨by rfl, ?h3_9⟩) hHeld ?r3_9
                  case h3_9 => (intro wS hSw; obtain ⟨s0, s1⟩ := hSw; go_simp; all_goals (with_reducible rfl))
                  simp only [Act.put, List.setIfInBounds_toArray, List.set_cons_zero, List.set_cons_succ]
                  refine take_drop (i := 4) (v := ?v4_9) rfl (by kernel_rfl) (by kernel_rfl) (by kernel_rfl) (fun _ _ _ h => h) (Or.inl ⟨by rfl, ?h4_9⟩) hHeld ?r4_9
                  case h4_9 => (intro wS hSw; obtain ⟨s0, s1⟩ := hSw; go_simp; all_goals (with_reducible rfl))
                  simp only [Act.put, List.setIfInBounds_toArray, List.set_cons_zero, List.set_cons_succ]
                  refine take_drop (i := 5) (v := ?v5_9) rfl (by kernel_rfl) (by kernel_rfl) (by kernel_rfl) (fun _ _ _ h => h) (Or.inl ⟨by rfl, ?h5_9⟩) hHeld ?r5_9
                  case h5_9 => (intro wS hSw; obtain ⟨s0, s1⟩ := hSw; go_simp; all_goals (with_reducible rfl))
                  simp only [Act.put, List.setIfInBounds_toArray, List.set_cons_zero, List.set_cons_succ]
                  refine take_drop (i := 7) (v := ?v7_9) rfl (by kernel_rfl) (by kernel_rfl) (by kernel_rfl) (fun _ _ _ h => h) (Or.inl ⟨by rfl, ?h7_9⟩) hHeld ?r7_9
                  case h7_9 => (intro wS hSw; obtain ⟨s0, s1⟩ := hSw; go_simp; all_goals (with_reducible rfl))
                  simp only [Act.put, List.setIfInBounds_toArray, List.set_cons_zero, List.set_cons_succ]
                  refine wpAnyH_ready (rs := [6]) (by kernel_rfl) (by simp) ?_
                  refine do_drop (i := 6) rfl (fun K hK => ?_) AllReadyH.nil
                  go_simp
                  refine HV9.out.mono ?_
                  rintro e w10 ⟨rfl, f10⟩
                  have y0 := f10.cell x0 (fun h => h)
                  have y1 := f10.cell x1 (fun h => h)
                  have HC10 := Lib.hid (HK.out.keep HCD.out f10 (fun _ _ h => h))
                  have HL10 := Lib.hid (HLD.out.keep f10 (fun _ _ h => h))
                  have HF10 := Lib.hid (HFD.out.trans f10)
                  have HS10 := Lib.hid (Nat.le_trans HSD.out f10.size)
                  clear f10 hHeld
                  refine hK.out _ _ ⟨y0, y1⟩ ?_
                  clear hK K
                  try simp only [Act.put, List.setIfInBounds_toArray, List.set_cons_zero, List.set_cons_succ]
                  have hS2 := And.intro y0 y1
                  refine take_drop (i := 8) (v := ?v8_9) rfl (by kernel_rfl) (by kernel_rfl) (by kernel_rfl) (fun _ _ _ h => h) (Or.inl ⟨by rfl, ?h8_9⟩) hS2 ?r8_9
                  case h8_9 => (intro wS hSw; obtain ⟨s0, s1⟩ := hSw; go_simp; all_goals (with_reducible rfl))
                  simp only [Act.put, List.setIfInBounds_toArray, List.set_cons_zero, List.set_cons_succ]
                  refine take_drop (i := 9) (v := ?v9_9) rfl (by kernel_rfl) (by kernel_rfl) (by kernel_rfl) (fun _ _ _ h => h) (Or.inl ⟨by rfl, ?h9_9⟩) hS2 ?r9_9
                  case h9_9 => (intro wS hSw; obtain ⟨s0, s1⟩ := hSw; go_simp; all_goals (with_reducible rfl))
                  simp only [Act.put, List.setIfInBounds_toArray, List.set_cons_zero, List.set_cons_succ]
                  refine take_drop (i := 10) (v := ?v10_9) rfl (by kernel_rfl) (by kernel_rfl) (by kernel_rfl) (fun _ _ _ h => h) (Or.inl ⟨by rfl, ?h10_9⟩) hS2 ?r10_9
                  case h10_9 => (intro wS hSw; obtain ⟨s0, s1⟩ := hSw; go_simp; all_goals (with_reducible rfl))
                  simp only [Act.put, List.setIfInBounds_toArray, List.set_cons_zero, List.set_cons_succ]
                  refine take_drop (i := 11) (v := ?v11_9) rfl (by kernel_rfl) (by kernel_rfl) (by kernel_rfl) (fun _ _ _ h => h) (Or.inl ⟨by rfl, ?h11_9⟩) hS2 ?r11_9
                  case h11_9 => (intro wS hSw; obtain ⟨s0, s1⟩ := hSw; go_simp; all_goals (with_reducible rfl))
                  simp only [Act.put, List.setIfInBounds_toArray, List.set_cons_zero, List.set_cons_succ]
                  refine take_drop (i := 12) (v := ?v12_9) rfl (by kernel_rfl) (by kernel_rfl) (by kernel_rfl) (fun _ _ _ h => h) (Or.inl ⟨by rfl, ?h12_9⟩) hS2 ?r12_9
                  case h12_9 => (intro wS hSw; obtain ⟨s0, s1⟩ := hSw; go_simp; all_goals (with_reducible rfl))
                  simp only [Act.put, List.setIfInBounds_toArray, List.set_cons_zero, List.set_cons_succ]
                  refine take_drop (i := 13) (v := undef) rfl (by kernel_rfl) (by kernel_rfl) (by kernel_rfl) (fun _ _ _ h => h) (Or.inr ⟨by rfl, rfl⟩) hS2 ?_
                  simp only [Act.put, List.setIfInBounds_toArray, List.set_cons_zero, List.set_cons_succ]
                  refine take_drop (i := 14) (v := undef) rfl (by kernel_rfl) (by kernel_rfl) (by kernel_rfl) (fun _ _ _ h => h) (Or.inr ⟨by rfl, rfl⟩) hS2 ?_
                  simp only [Act.put, List.setIfInBounds_toArray, List.set_cons_zero, List.set_cons_succ]
                  refine take_drop (i := 15) (v := undef) rfl (by kernel_rfl) (by kernel_rfl) (by kernel_rfl) (fun _ _ _ h => h) (Or.inr ⟨by rfl, rfl⟩) hS2 ?_
                  simp only [Act.put, List.setIfInBounds_toArray, List.set_cons_zero, List.set_cons_succ]
                  refine take_drop (i := 16) (v := undef) rfl (by kernel_rfl) (by kernel_rfl) (by kernel_rfl) (fun _ _ _ h => h) (Or.inr ⟨by rfl, rfl⟩) hS2 ?_
                  simp only [Act.put, List.setIfInBounds_toArray, List.set_cons_zero, List.set_cons_succ]
                  refine take_drop (i := 17) (v := undef) rfl (by kernel_rfl) (by kernel_rfl) (by kernel_rfl) (fun _ _ _ h => h) (Or.inr ⟨by rfl, rfl⟩) hS2 ?_
                  simp only [Act.put, List.setIfInBounds_toArray, List.set_cons_zero, List.set_cons_succ]
                  refine take_drop (i := 18) (v := undef) rfl (by kernel_rfl) (by kernel_rfl) (by kernel_rfl) (fun _ _ _ h => h) (Or.inr ⟨by rfl, rfl⟩) hS2 ?_
                  simp only [Act.put, List.setIfInBounds_toArray, List.set_cons_zero, List.set_cons_succ]
                  refine take_drop (i := 19) (v := undef) rfl (by kernel_rfl) (by kernel_rfl) (by kernel_rfl) (fun _ _ _ h => h) (Or.inr ⟨by rfl, rfl⟩) hS2 ?_
                  simp only [Act.put, List.setIfInBounds_toArray, List.set_cons_zero, List.set_cons_succ]
                  refine take_drop (i := 20) (v := undef) rfl (by kernel_rfl) (by kernel_rfl) (by kernel_rfl) (fun _ _ _ h => h) (Or.inr ⟨by rfl, rfl⟩) hS2 ?_
                  simp only [Act.put, List.setIfInBounds_toArray, List.set_cons_zero, List.set_cons_succ]
                  refine take_drop (i := 21) (v := undef) rfl (by kernel_rfl) (by kernel_rfl) (by kernel_rfl) (fun _ _ _ h => h) (Or.inr ⟨by rfl, rfl⟩) hS2 ?_
                  simp only [Act.put, List.setIfInBounds_toArray, List.set_cons_zero, List.set_cons_succ]
                  refine take_drop (i := 22) (v := undef) rfl (by kernel_rfl) (by kernel_rfl) (by kernel_rfl) (fun _ _ _ h => h) (Or.inr ⟨by rfl, rfl⟩) hS2 ?_
                  simp only [Act.put, List.setIfInBounds_toArray, List.set_cons_zero, List.set_cons_succ]
                  refine take_drop (i := 23) (v := undef) rfl (by kernel_rfl) (by kernel_rfl) (by kernel_rfl) (fun _ _ _ h => h) (Or.inr ⟨by rfl, rfl⟩) hS2 ?_
                  simp only [Act.put, List.setIfInBounds_toArray, List.set_cons_zero, List.set_cons_succ]
                  refine take_drop (i := 24) (v := undef) rfl (by kernel_rfl) (by kernel_rfl) (by kernel_rfl) (fun _ _ _ h => h) (Or.inr ⟨by rfl, rfl⟩) hS2 ?_
                  simp only [Act.put, List.setIfInBounds_toArray, List.set_cons_zero, List.set_cons_succ]
                  refine take_drop (i := 25) (v := undef) rfl (by kernel_rfl) (by kernel_rfl) (by kernel_rfl) (fun _ _ _ h => h) (Or.inr ⟨by rfl, rfl⟩) hS2 ?_
                  simp only [Act.put, List.setIfInBounds_toArray, List.set_cons_zero, List.set_cons_succ]
                  refine take_drop (i := 26) (v := undef) rfl (by kernel_rfl) (by kernel_rfl) (by kernel_rfl) (fun _ _ _ h => h) (Or.inr ⟨by rfl, rfl⟩) hS2 ?_
                  simp only [Act.put, List.setIfInBounds_toArray, List.set_cons_zero, List.set_cons_succ]
                  refine take_drop (i := 27) (v := undef) rfl (by kernel_rfl) (by kernel_rfl) (by kernel_rfl) (fun _ _ _ h => h) (Or.inr ⟨by rfl, rfl⟩) hS2 ?_
                  simp only [Act.put, List.setIfInBounds_toArray, List.set_cons_zero, List.set_cons_succ]
                  refine take_drop (i := 28) (v := undef) rfl (by kernel_rfl) (by kernel_rfl) (by kernel_rfl) (fun _ _ _ h => h) (Or.inr ⟨by rfl, rfl⟩) hS2 ?_
                  simp only [Act.put, List.setIfInBounds_toArray, List.set_cons_zero, List.set_cons_succ]
                  refine take_drop (i := 29) (v := undef) rfl (by kernel_rfl) (by kernel_rfl) (by kernel_rfl) (fun _ _ _ h => h) (Or.inr ⟨by rfl, rfl⟩) hS2 ?_
                  simp only [Act.put, List.setIfInBounds_toArray, List.set_cons_zero, List.set_cons_succ]
                  refine take_drop (i := 30) (v := undef) rfl (by kernel_rfl) (by kernel_rfl) (by kernel_rfl) (fun _ _ _ h => h) (Or.inr ⟨by rfl, rfl⟩) hS2 ?_
                  simp only [Act.put, List.setIfInBounds_toArray, List.set_cons_zero, List.set_cons_succ]
                  refine take_drop (i := 31) (v := ?v31_9) rfl (by kernel_rfl) (by kernel_rfl) (by kernel_rfl) (fun _ _ _ h => h) (Or.inl ⟨by rfl, ?h31_9⟩) hS2 ?r31_9
                  case h31_9 => (intro wS hSw; obtain ⟨s0, s1⟩ := hSw; go_simp; all_goals (with_reducible rfl))
                  simp only [Act.put, List.setIfInBounds_toArray, List.set_cons_zero, List.set_cons_succ]
                  refine take_drop (i := 32) (v := ?v32_9) rfl (by kernel_rfl) (by kernel_rfl) (by kernel_rfl) (fun _ _ _ h => h) (Or.inl ⟨by rfl, ?h32_9⟩) hS2 ?r32_9
                  case h32_9 => (intro wS hSw; obtain ⟨s0, s1⟩ := hSw; go_simp; all_goals (with_reducible rfl))
                  simp only [Act.put, List.setIfInBounds_toArray, List.set_cons_zero, List.set_cons_succ]
                  refine take_drop (i := 33) (v := ?v33_9) rfl (by kernel_rfl) (by kernel_rfl) (by kernel_rfl) (fun _ _ _ h => h) (Or.inl ⟨by rfl, ?h33_9⟩) hS2 ?r33_9
                  case h33_9 => (intro wS hSw; obtain ⟨s0, s1⟩ := hSw; go_simp; all_goals (with_reducible rfl))
                  simp only [Act.put, List.setIfInBounds_toArray, List.set_cons_zero, List.set_cons_succ]
                  refine take_drop (i := 34) (v := ?v34_9) rfl (by kernel_rfl) (by kernel_rfl) (by kernel_rfl) (fun _ _ _ h => h) (Or.inl ⟨by rfl, ?h34_9⟩) hS2 ?r34_9
                  case h34_9 => (intro wS hSw; obtain ⟨s0, s1⟩ := hSw; go_simp; all_goals (with_reducible rfl))
                  simp only [Act.put, List.setIfInBounds_toArray, List.set_cons_zero, List.set_cons_succ]
                  refine take_drop (i := 35) (v := ?v35_9) rfl (by kernel_rfl) (by kernel_rfl) (by kernel_rfl) (fun _ _ _ h => h) (Or.inl ⟨by rfl, ?h35_9⟩) hS2 ?r35_9
                  case h35_9 => (intro wS hSw; obtain ⟨s0, s1⟩ := hSw; go_simp; all_goals (with_reducible rfl))
                  simp only [Act.put, List.setIfInBounds_toArray, List.set_cons_zero, List.set_cons_succ]
                  refine take_drop (i := 36) (v := ?v36_9) rfl (by kernel_rfl) (by kernel_rfl) (by kernel_rfl) (fun _ _ _ h => h) (Or.inl ⟨by rfl, ?h36_9⟩) hS2 ?r36_9
                  case h36_9 => (intro wS hSw; obtain ⟨s0, s1⟩ := hSw; go_simp; all_goals (with_reducible rfl))
                  simp only [Act.put, List.setIfInBounds_toArray, List.set_cons_zero, List.set_cons_succ]
                  refine take_drop (i := 37) (v := ?v37_9) rfl (by kernel_rfl) (by kernel_rfl) (by kernel_rfl) (fun _ _ _ h => h) (Or.inl ⟨by rfl, ?h37_9⟩) hS2 ?r37_9
                  case h37_9 => (intro wS hSw; obtain ⟨s0, s1⟩ := hSw; go_simp; all_goals (with_reducible rfl))
                  simp only [Act.put, List.setIfInBounds_toArray, List.set_cons_zero, List.set_cons_succ]
                  refine take_drop (i := 38) (v := ?v38_9) rfl (by kernel_rfl) (by kernel_rfl) (by kernel_rfl) (fun _ _ _ h => h) (Or.inl ⟨by rfl, ?h38_9⟩) hS2 ?r38_9
                  case h38_9 => (intro wS hSw; obtain ⟨s0, s1⟩ := hSw; go_simp; all_goals (with_reducible rfl))
                  simp only [Act.put, List.setIfInBounds_toArray, List.set_cons_zero, List.set_cons_succ]
                  refine take_drop (i := 39) (v := ?v39_9) rfl (by kernel_rfl) (by kernel_rfl) (by kernel_rfl) (fun _ _ _ h => h) (Or.inl ⟨by rfl, ?h39_9⟩) hS2 ?r39_9
                  case h39_9 => (intro wS hSw; obtain ⟨s0, s1⟩ := hSw; go_simp; all_goals (with_reducible rfl))
                  simp only [Act.put, List.setIfInBounds_toArray, List.set_cons_zero, List.set_cons_succ]
                  refine take_drop (i := 40) (v := ?v40_9) rfl (by kernel_rfl) (by kernel_rfl) (by kernel_rfl) (fun _ _ _ h => h) (Or.inl ⟨by rfl, ?h40_9⟩) hS2 ?r40_9
                  case h40_9 => (intro wS hSw; obtain ⟨s0, s1⟩ := hSw; go_simp; all_goals (with_reducible rfl))
                  simp only [Act.put, List.setIfInBounds_toArray, List.set_cons_zero, List.set_cons_succ]
                  refine take_drop (i := 41) (v := ?v41_9) rfl (by kernel_rfl) (by kernel_rfl) (by kernel_rfl) (fun _ _ _ h => h) (Or.inl ⟨by rfl, ?h41_9⟩) hS2 ?r41_9
                  case h41_9 => (intro wS hSw; obtain ⟨s0, s1⟩ := hSw; go_simp; all_goals (with_reducible rfl))
                  simp only [Act.put, List.setIfInBounds_toArray, List.set_cons_zero, List.set_cons_succ]
                  refine wpAnyH_done (by kernel_rfl) ?_ _

                  go_wp2_with fail
                  go_roundw
                  case rel => exact ⟨j + 1, -1, X8, Y8, by simp, by omega, by first | rfl | simp | (congr 1; omega), by omega, HC10.out, HL10.out, HY8.out, HX8.out, HS10.out, HF10.out⟩
                  case measure => simp [intOf]; omega
                | succ s =>
                  have hn : s < m := by omega
                  have g3 : ((s + 1 : Nat) : Int) - 1 = (s : Int) := by omega
                  have g2 : max (s : Int) (-1) = (s : Int) := by omega
                  have g1 : decide ((m : Int) ≤ (s : Int)) = false := by first | (rw [decide_eq_true_eq]; omega) | (rw [decide_eq_false_iff_not]; omega)
                  go_wp2_with fail
                  refine HMV.out.mono ?_
                  rintro e w8 ⟨rfl, X8, Y8, hC8, hX8, hY8, f8⟩
                  rw [show prevI ((s + 1 : Nat) : Int) = (s : Int) by unfold prevI; rw [if_neg (by omega)]; omega] at hC8
                  rw [show prevI ((s + 1 : Nat) : Int) = (s : Int) by unfold prevI; rw [if_neg (by omega)]; omega]
                  rw [show decide ((0 : Int) ≤ (s : Int)) = true by first | (rw [decide_eq_true_eq]; omega) | (rw [decide_eq_false_iff_not]; omega)]
                  have HC8 := Lib.hid hC8
                  have HL8 := Lib.hid (HL7.out.keep f8 (fun k hk hy => HXr.out k hy hk))
                  have HF8 : Hid (Fr No W w8) := Lib.hid (HF7.out.then_ f8 fun k hk hy => absurd (HYr.out k hy) (by omega))
                  have HY8 : Hid (∀ k, Y8 k → W.heap.size ≤ k) := Lib.hid fun k hk => (hY8 k hk).elim (HYr.out k) (fun h => Nat.le_trans HF7.out.size h.1)
                  have HX8 : Hid (∀ k, Y8 k → ¬ XL k) := Lib.hid fun k hk h => (hY8 k hk).elim (fun hy => HXr.out k hy h) (fun hn => by
                    have h1 := HXB.out k h
                    have h2 := HSZ.out
                    have h3 := HG7.out.size
                    omega)
                  have HS8 : Hid (w6.heap.size ≤ w8.heap.size) := Lib.hid (Nat.le_trans (Nat.le_trans HSZ.out HG7.out.size) f8.size)
                  have e3 := f8.cell e1 (fun hy => HOB.out _ hy rfl)
                  clear hC8 hX8 hY8 f8 e0 e1
                  have HIT := HK.out.item HC8.out
                  rw [show itemI L ((s : Int)) = L.getD s p20 by unfold itemI; rw [if_pos (by omega)]; congr 1] at HIT
                  have HCEL : Hid (∀ w', Fr No w8 w' → ∃ g p, oa = some ⟨g, p, none⟩ ∧ w'.cell? ⟨g, p + s * 2, none⟩ = some (.int .i64 (L.getD s p20).1) ∧ w'.cell? ⟨g, p + s * 2 + 1, none⟩ = some (.int .i64 (L.getD s p20).2)) := Lib.hid fun w' f => by
                    obtain ⟨g, p, _, hg, hc⟩ := HL8.out (by rw [HML.out]; omega)
                    exact ⟨g, p, hg, f.cell (hc s (by rw [HML.out]; exact hn)).1 (fun h => h), f.cell (hc s (by rw [HML.out]; exact hn)).2 (fun h => h)⟩
                  generalize (L.getD s p20).1 = xk at *
                  generalize (L.getD s p20).2 = xv at *
                  have HIT := Lib.hid HIT
                  go_wp2_with fail
                  refine HIT.out.mono ?_
                  rintro e w9 ⟨rfl, f9⟩
                  have HC9 := HK.out.keep HC8.out f9 (fun _ _ h => h)
                  have HL9 := HL8.out.keep f9 (fun _ _ h => h)
                  have HF9 := HF8.out.trans f9
                  have fB := (Fr.refl No w9).alloc (.cells #[.int .i64 xk, .int .i64 xv] 49)
                  have x0 : (w9.alloc (.cells #[.int .i64 xk, .int .i64 xv] 49)).drew.cell? ⟨w9.heap.size, 0, none⟩ = some (.int .i64 xk) := (At.new w9 49 #[.int .i64 xk, .int .i64 xv]).cell 0
                  have x1 : (w9.alloc (.cells #[.int .i64 xk, .int .i64 xv] 49)).drew.cell? ⟨w9.heap.size, 1, none⟩ = some (.int .i64 xv) := (At.new w9 49 #[.int .i64 xk, .int .i64 xv]).cell 1
                  have HCD := Lib.hid (HK.out.keep HC9 fB.drew (fun _ _ h => h))
                  have HLD := Lib.hid (HL9.keep fB.drew (fun _ _ h => h))
                  have HFD := Lib.hid (HF9.trans fB.drew)
                  have HSD := Lib.hid (Nat.le_trans HS8.out (f9.trans fB.drew).size)
                  have HV9 := HK.out.valid HCD.out
                  rw [show decide ((0 : Int) ≤ (s : Int)) = true by first | (rw [decide_eq_true_eq]; omega) | (rw [decide_eq_false_iff_not]; omega)] at HV9
                  have HV9 := Lib.hid HV9
                  have bn0 : (0 : Int) ≤ (s : Int) := by omega
                  have bn1 : (s : Int) < (m : Int) := by omega
                  obtain ⟨lg, lp, rfl, l0, l1⟩ := HCEL.out _ (f9.trans fB.drew)
                  have r1 : (xk == xk) = true := by simp
                  have r2 : (xv == xv) = true := by simp
                  have r3 : decide ((0 : Int) ≤ (s : Int)) = true := by first | (rw [decide_eq_true_eq]; omega) | (rw [decide_eq_false_iff_not]; omega)
                  clear f9 HC9 HL9 HF9 fB
                  try clear e3
                  try clear e0 e1
                  go_wp2_with fail
                  refine wp_region_held_drew (S := fun w' => w'.cell? ⟨w9.heap.size, 0, none⟩ = some (.int .i64 xk) ∧ w'.cell? ⟨w9.heap.size, 1, none⟩ = some (.int .i64 xv) ∧ w'.cell? ⟨lg, lp + s * 2, none⟩ = some (.int .i64 xk) ∧ w'.cell? ⟨lg, lp + s * 2 + 1, none⟩ = some (.int .i64 xv)) (by kernel_rfl) ⟨x0, x1, l0, l1⟩ (fun hHeld => ?_)
                  refine take_drop (i := 0) (v := ?v0_10) rfl (by kernel_rfl) (by kernel_rfl) (by kernel_rfl) (fun _ _ _ h => h) (Or.inl ⟨by rfl, ?h0_10⟩) hHeld ?r0_10
                  case h0_10 => (intro wS hSw; obtain ⟨s0, s1, s2, s3⟩ := hSw; go_simp; all_goals (with_reducible rfl))
                  simp only [Act.put, List.setIfInBounds_toArray, List.set_cons_zero, List.set_cons_succ]
                  refine take_drop (i := 1) (v := ?v1_10) rfl (by kernel_rfl) (by kernel_rfl) (by kernel_rfl) (fun _ _ _ h => h) (Or.inl ⟨by rfl, ?h1_10⟩) hHeld ?r1_10
                  case h1_10 => (intro wS hSw; obtain ⟨s0, s1, s2, s3⟩ := hSw; go_simp; all_goals (with_reducible rfl))
                  simp only [Act.put, List.setIfInBounds_toArray, List.set_cons_zero, List.set_cons_succ]
                  refine take_drop (i := 2) (v := ?v2_10) rfl (by kernel_rfl) (by kernel_rfl) (by kernel_rfl) (fun _ _ _ h => h) (Or.inl ⟨by rfl, ?h2_10⟩) hHeld ?r2_10
                  case h2_10 => (intro wS hSw; obtain ⟨s0, s1, s2, s3⟩ := hSw; go_simp; all_goals (with_reducible rfl))
                  simp only [Act.put, List.setIfInBounds_toArray, List.set_cons_zero, List.set_cons_succ]
                  refine take_drop (i := 3) (v := ?v3_10) rfl (by kernel_rfl) (by kernel_rfl) (by kernel_rfl) (fun _ _ _ h => h) (Or.inl ⟨by rfl, ?h3_10⟩) hHeld ?r3_10
                  case h3_10 => (intro wS hSw; obtain ⟨s0, s1, s2, s3⟩ := hSw; go_simp; all_goals (with_reducible rfl))
                  simp only [Act.put, List.setIfInBounds_toArray, List.set_cons_zero, List.set_cons_succ]
                  refine take_drop (i := 4) (v := ?v4_10) rfl (by kernel_rfl) (by kernel_rfl) (by kernel_rfl) (fun _ _ _ h => h) (Or.inl ⟨by rfl, ?h4_10⟩) hHeld ?r4_10
                  case h4_10 => (intro wS hSw; obtain ⟨s0, s1, s2, s3⟩ := hSw; go_simp; all_goals (with_reducible rfl))
                  simp only [Act.put, List.setIfInBounds_toArray, List.set_cons_zero, List.set_cons_succ]
                  refine take_drop (i := 5) (v := ?v5_10) rfl (by kernel_rfl) (by kernel_rfl) (by kernel_rfl) (fun _ _ _ h => h) (Or.inl ⟨by rfl, ?h5_10⟩) hHeld ?r5_10
                  case h5_10 => (intro wS hSw; obtain ⟨s0, s1, s2, s3⟩ := hSw; go_simp; all_goals (with_reducible rfl))
                  simp only [Act.put, List.setIfInBounds_toArray, List.set_cons_zero, List.set_cons_succ]
                  refine take_drop (i := 7) (v := ?v7_10) rfl (by kernel_rfl) (by kernel_rfl) (by kernel_rfl) (fun _ _ _ h => h) (Or.inl ⟨by rfl, ?h7_10⟩) hHeld ?r7_10
                  case h7_10 => (intro wS hSw; obtain ⟨s0, s1, s2, s3⟩ := hSw; go_simp; all_goals (with_reducible rfl))
                  simp only [Act.put, List.setIfInBounds_toArray, List.set_cons_zero, List.set_cons_succ]
                  refine wpAnyH_ready (rs := [6]) (by kernel_rfl) (by simp) ?_
                  refine do_drop (i := 6) rfl (fun K hK => ?_) AllReadyH.nil
                  go_simp
                  refine HV9.out.mono ?_
                  rintro e w10 ⟨rfl, f10⟩
                  have y0 := f10.cell x0 (fun h => h)
                  have y1 := f10.cell x1 (fun h => h)
                  have y2 := f10.cell l0 (fun h => h)
                  have y3 := f10.cell l1 (fun h => h)
                  have HC10 := Lib.hid (HK.out.keep HCD.out f10 (fun _ _ h => h))
                  have HL10 := Lib.hid (HLD.out.keep f10 (fun _ _ h => h))
                  have HF10 := Lib.hid (HFD.out.trans f10)
                  have HS10 := Lib.hid (Nat.le_trans HSD.out f10.size)
                  clear f10 hHeld
                  refine hK.out _ _ ⟨y0, y1, y2, y3⟩ ?_
                  clear hK K
                  try simp only [Act.put, List.setIfInBounds_toArray, List.set_cons_zero, List.set_cons_succ]
                  have hS2 := And.intro y0 (And.intro y1 (And.intro y2 y3))
                  refine take_drop (i := 8) (v := ?v8_10) rfl (by kernel_rfl) (by kernel_rfl) (by kernel_rfl) (fun _ _ _ h => h) (Or.inl ⟨by rfl, ?h8_10⟩) hS2 ?r8_10
                  case h8_10 => (intro wS hSw; obtain ⟨s0, s1, s2, s3⟩ := hSw; go_simp; all_goals (with_reducible rfl))
                  simp only [Act.put, List.setIfInBounds_toArray, List.set_cons_zero, List.set_cons_succ]
                  refine take_drop (i := 9) (v := ?v9_10) rfl (by kernel_rfl) (by kernel_rfl) (by kernel_rfl) (fun _ _ _ h => h) (Or.inl ⟨by rfl, ?h9_10⟩) hS2 ?r9_10
                  case h9_10 => (intro wS hSw; obtain ⟨s0, s1, s2, s3⟩ := hSw; go_simp; all_goals (with_reducible rfl))
                  simp only [Act.put, List.setIfInBounds_toArray, List.set_cons_zero, List.set_cons_succ]
                  refine take_drop (i := 10) (v := ?v10_10) rfl (by kernel_rfl) (by kernel_rfl) (by kernel_rfl) (fun _ _ _ h => h) (Or.inl ⟨by rfl, ?h10_10⟩) hS2 ?r10_10
                  case h10_10 => (intro wS hSw; obtain ⟨s0, s1, s2, s3⟩ := hSw; go_simp; all_goals (with_reducible rfl))
                  simp only [Act.put, List.setIfInBounds_toArray, List.set_cons_zero, List.set_cons_succ]
                  refine take_drop (i := 11) (v := ?v11_10) rfl (by kernel_rfl) (by kernel_rfl) (by kernel_rfl) (fun _ _ _ h => h) (Or.inl ⟨by rfl, ?h11_10⟩) hS2 ?r11_10
                  case h11_10 => (intro wS hSw; obtain ⟨s0, s1, s2, s3⟩ := hSw; go_simp; all_goals (with_reducible rfl))
                  simp only [Act.put, List.setIfInBounds_toArray, List.set_cons_zero, List.set_cons_succ]
                  refine take_drop (i := 12) (v := ?v12_10) rfl (by kernel_rfl) (by kernel_rfl) (by kernel_rfl) (fun _ _ _ h => h) (Or.inl ⟨by rfl, ?h12_10⟩) hS2 ?r12_10
                  case h12_10 => (intro wS hSw; obtain ⟨s0, s1, s2, s3⟩ := hSw; go_simp; all_goals (with_reducible rfl))
                  simp only [Act.put, List.setIfInBounds_toArray, List.set_cons_zero, List.set_cons_succ]
                  refine take_drop (i := 13) (v := ?v13_10) rfl (by kernel_rfl) (by kernel_rfl) (by kernel_rfl) (fun _ _ _ h => h) (Or.inl ⟨by rfl, ?h13_10⟩) hS2 ?r13_10
                  case h13_10 => (intro wS hSw; obtain ⟨s0, s1, s2, s3⟩ := hSw; go_simp; all_goals (with_reducible rfl))
                  simp only [Act.put, List.setIfInBounds_toArray, List.set_cons_zero, List.set_cons_succ]
                  refine take_drop (i := 14) (v := ?v14_10) rfl (by kernel_rfl) (by kernel_rfl) (by kernel_rfl) (fun _ _ _ h => h) (Or.inl ⟨by rfl, ?h14_10⟩) hS2 ?r14_10
                  case h14_10 => (intro wS hSw; obtain ⟨s0, s1, s2, s3⟩ := hSw; go_simp; all_goals (with_reducible rfl))
                  simp only [Act.put, List.setIfInBounds_toArray, List.set_cons_zero, List.set_cons_succ]
                  refine take_drop (i := 15) (v := ?v15_10) rfl (by kernel_rfl) (by kernel_rfl) (by kernel_rfl) (fun _ _ _ h => h) (Or.inl ⟨by rfl, ?h15_10⟩) hS2 ?r15_10
                  case h15_10 => (intro wS hSw; obtain ⟨s0, s1, s2, s3⟩ := hSw; go_simp; all_goals (with_reducible rfl))
                  simp only [Act.put, List.setIfInBounds_toArray, List.set_cons_zero, List.set_cons_succ]
                  refine take_drop (i := 16) (v := ?v16_10) rfl (by kernel_rfl) (by kernel_rfl) (by kernel_rfl) (fun _ _ _ h => h) (Or.inl ⟨by rfl, ?h16_10⟩) hS2 ?r16_10
                  case h16_10 => (intro wS hSw; obtain ⟨s0, s1, s2, s3⟩ := hSw; go_simp; all_goals (with_reducible rfl))
                  simp only [Act.put, List.setIfInBounds_toArray, List.set_cons_zero, List.set_cons_succ]
                  refine take_drop (i := 17) (v := ?v17_10) rfl (by kernel_rfl) (by kernel_rfl) (by kernel_rfl) (fun _ _ _ h => h) (Or.inl ⟨by rfl, ?h17_10⟩) hS2 ?r17_10
                  case h17_10 => (intro wS hSw; obtain ⟨s0, s1, s2, s3⟩ := hSw; go_simp; all_goals (with_reducible rfl))
                  simp only [Act.put, List.setIfInBounds_toArray, List.set_cons_zero, List.set_cons_succ]
                  refine take_drop (i := 18) (v := ?v18_10) rfl (by kernel_rfl) (by kernel_rfl) (by kernel_rfl) (fun _ _ _ h => h) (Or.inl ⟨by rfl, ?h18_10⟩) hS2 ?r18_10
                  case h18_10 => (intro wS hSw; obtain ⟨s0, s1, s2, s3⟩ := hSw; go_simp; all_goals (with_reducible rfl))
                  simp only [Act.put, List.setIfInBounds_toArray, List.set_cons_zero, List.set_cons_succ]
                  refine take_drop (i := 19) (v := ?v19_10) rfl (by kernel_rfl) (by kernel_rfl) (by kernel_rfl) (fun _ _ _ h => h) (Or.inl ⟨by rfl, ?h19_10⟩) hS2 ?r19_10
                  case h19_10 => (intro wS hSw; obtain ⟨s0, s1, s2, s3⟩ := hSw; go_simp; all_goals (with_reducible rfl))
                  simp only [Act.put, List.setIfInBounds_toArray, List.set_cons_zero, List.set_cons_succ]
                  refine take_drop (i := 20) (v := ?v20_10) rfl (by kernel_rfl) (by kernel_rfl) (by kernel_rfl) (fun _ _ _ h => h) (Or.inl ⟨by rfl, ?h20_10⟩) hS2 ?r20_10
                  case h20_10 => (intro wS hSw; obtain ⟨s0, s1, s2, s3⟩ := hSw; go_simp; all_goals (with_reducible rfl))
                  simp only [Act.put, List.setIfInBounds_toArray, List.set_cons_zero, List.set_cons_succ]
                  refine take_drop (i := 21) (v := ?v21_10) rfl (by kernel_rfl) (by kernel_rfl) (by kernel_rfl) (fun _ _ _ h => h) (Or.inl ⟨by rfl, ?h21_10⟩) hS2 ?r21_10
                  case h21_10 => (intro wS hSw; obtain ⟨s0, s1, s2, s3⟩ := hSw; go_simp; all_goals (with_reducible rfl))
                  simp only [Act.put, List.setIfInBounds_toArray, List.set_cons_zero, List.set_cons_succ]
                  refine take_drop (i := 22) (v := ?v22_10) rfl (by kernel_rfl) (by kernel_rfl) (by kernel_rfl) (fun _ _ _ h => h) (Or.inl ⟨by rfl, ?h22_10⟩) hS2 ?r22_10
                  case h22_10 => (intro wS hSw; obtain ⟨s0, s1, s2, s3⟩ := hSw; go_simp; all_goals (with_reducible rfl))
                  simp only [Act.put, List.setIfInBounds_toArray, List.set_cons_zero, List.set_cons_succ]
                  refine take_drop (i := 23) (v := ?v23_10) rfl (by kernel_rfl) (by kernel_rfl) (by kernel_rfl) (fun _ _ _ h => h) (Or.inl ⟨by rfl, ?h23_10⟩) hS2 ?r23_10
                  case h23_10 => (intro wS hSw; obtain ⟨s0, s1, s2, s3⟩ := hSw; go_simp; all_goals (with_reducible rfl))
                  simp only [Act.put, List.setIfInBounds_toArray, List.set_cons_zero, List.set_cons_succ]
                  refine take_drop (i := 24) (v := ?v24_10) rfl (by kernel_rfl) (by kernel_rfl) (by kernel_rfl) (fun _ _ _ h => h) (Or.inl ⟨by rfl, ?h24_10⟩) hS2 ?r24_10
                  case h24_10 => (intro wS hSw; obtain ⟨s0, s1, s2, s3⟩ := hSw; go_simp; all_goals (with_reducible rfl))
                  simp only [Act.put, List.setIfInBounds_toArray, List.set_cons_zero, List.set_cons_succ]
                  refine take_drop (i := 25) (v := ?v25_10) rfl (by kernel_rfl) (by kernel_rfl) (by kernel_rfl) (fun _ _ _ h => h) (Or.inl ⟨by rfl, ?h25_10⟩) hS2 ?r25_10
                  case h25_10 => (intro wS hSw; obtain ⟨s0, s1, s2, s3⟩ := hSw; go_simp; all_goals (with_reducible rfl))
                  simp only [Act.put, List.setIfInBounds_toArray, List.set_cons_zero, List.set_cons_succ]
                  refine take_drop (i := 26) (v := ?v26_10) rfl (by kernel_rfl) (by kernel_rfl) (by kernel_rfl) (fun _ _ _ h => h) (Or.inl ⟨by rfl, ?h26_10⟩) hS2 ?r26_10
                  case h26_10 => (intro wS hSw; obtain ⟨s0, s1, s2, s3⟩ := hSw; go_simp; all_goals (with_reducible rfl))
                  simp only [Act.put, List.setIfInBounds_toArray, List.set_cons_zero, List.set_cons_succ]
                  refine take_drop (i := 27) (v := ?v27_10) rfl (by kernel_rfl) (by kernel_rfl) (by kernel_rfl) (fun _ _ _ h => h) (Or.inl ⟨by rfl, ?h27_10⟩) hS2 ?r27_10
                  case h27_10 => (intro wS hSw; obtain ⟨s0, s1, s2, s3⟩ := hSw; go_simp; all_goals (with_reducible rfl))
                  simp only [Act.put, List.setIfInBounds_toArray, List.set_cons_zero, List.set_cons_succ]
                  refine take_drop (i := 28) (v := ?v28_10) rfl (by kernel_rfl) (by kernel_rfl) (by kernel_rfl) (fun _ _ _ h => h) (Or.inl ⟨by rfl, ?h28_10⟩) hS2 ?r28_10
                  case h28_10 => (intro wS hSw; obtain ⟨s0, s1, s2, s3⟩ := hSw; go_simp; all_goals (with_reducible rfl))
                  simp only [Act.put, List.setIfInBounds_toArray, List.set_cons_zero, List.set_cons_succ]
                  refine take_drop (i := 29) (v := ?v29_10) rfl (by kernel_rfl) (by kernel_rfl) (by kernel_rfl) (fun _ _ _ h => h) (Or.inl ⟨by rfl, ?h29_10⟩) hS2 ?r29_10
                  case h29_10 => (intro wS hSw; obtain ⟨s0, s1, s2, s3⟩ := hSw; go_simp; all_goals (with_reducible rfl))
                  simp only [Act.put, List.setIfInBounds_toArray, List.set_cons_zero, List.set_cons_succ]
                  refine take_drop (i := 30) (v := ?v30_10) rfl (by kernel_rfl) (by kernel_rfl) (by kernel_rfl) (fun _ _ _ h => h) (Or.inl ⟨by rfl, ?h30_10⟩) hS2 ?r30_10
                  case h30_10 => (intro wS hSw; obtain ⟨s0, s1, s2, s3⟩ := hSw; go_simp; all_goals (with_reducible rfl))
                  simp only [Act.put, List.setIfInBounds_toArray, List.set_cons_zero, List.set_cons_succ]
                  refine take_drop (i := 31) (v := ?v31_10) rfl (by kernel_rfl) (by kernel_rfl) (by kernel_rfl) (fun _ _ _ h => h) (Or.inl ⟨by rfl, ?h31_10⟩) hS2 ?r31_10
                  case h31_10 => (intro wS hSw; obtain ⟨s0, s1, s2, s3⟩ := hSw; go_simp; all_goals (with_reducible rfl))
                  simp only [Act.put, List.setIfInBounds_toArray, List.set_cons_zero, List.set_cons_succ]
                  refine take_drop (i := 32) (v := ?v32_10) rfl (by kernel_rfl) (by kernel_rfl) (by kernel_rfl) (fun _ _ _ h => h) (Or.inl ⟨by rfl, ?h32_10⟩) hS2 ?r32_10
                  case h32_10 => (intro wS hSw; obtain ⟨s0, s1, s2, s3⟩ := hSw; go_simp; all_goals (with_reducible rfl))
                  simp only [Act.put, List.setIfInBounds_toArray, List.set_cons_zero, List.set_cons_succ]
                  refine take_drop (i := 33) (v := ?v33_10) rfl (by kernel_rfl) (by kernel_rfl) (by kernel_rfl) (fun _ _ _ h => h) (Or.inl ⟨by rfl, ?h33_10⟩) hS2 ?r33_10
                  case h33_10 => (intro wS hSw; obtain ⟨s0, s1, s2, s3⟩ := hSw; go_simp; all_goals (with_reducible rfl))
                  simp only [Act.put, List.setIfInBounds_toArray, List.set_cons_zero, List.set_cons_succ]
                  refine take_drop (i := 34) (v := ?v34_10) rfl (by kernel_rfl) (by kernel_rfl) (by kernel_rfl) (fun _ _ _ h => h) (Or.inl ⟨by rfl, ?h34_10⟩) hS2 ?r34_10
                  case h34_10 => (intro wS hSw; obtain ⟨s0, s1, s2, s3⟩ := hSw; go_simp; all_goals (with_reducible rfl))
                  simp only [Act.put, List.setIfInBounds_toArray, List.set_cons_zero, List.set_cons_succ]
                  refine take_drop (i := 35) (v := ?v35_10) rfl (by kernel_rfl) (by kernel_rfl) (by kernel_rfl) (fun _ _ _ h => h) (Or.inl ⟨by rfl, ?h35_10⟩) hS2 ?r35_10
                  case h35_10 => (intro wS hSw; obtain ⟨s0, s1, s2, s3⟩ := hSw; go_simp; all_goals (with_reducible rfl))
                  simp only [Act.put, List.setIfInBounds_toArray, List.set_cons_zero, List.set_cons_succ]
                  refine take_drop (i := 36) (v := ?v36_10) rfl (by kernel_rfl) (by kernel_rfl) (by kernel_rfl) (fun _ _ _ h => h) (Or.inl ⟨by rfl, ?h36_10⟩) hS2 ?r36_10
                  case h36_10 => (intro wS hSw; obtain ⟨s0, s1, s2, s3⟩ := hSw; go_simp; all_goals (with_reducible rfl))
                  simp only [Act.put, List.setIfInBounds_toArray, List.set_cons_zero, List.set_cons_succ]
                  refine take_drop (i := 37) (v := undef) rfl (by kernel_rfl) (by kernel_rfl) (by kernel_rfl) (fun _ _ _ h => h) (Or.inr ⟨by rfl, rfl⟩) hS2 ?_
                  simp only [Act.put, List.setIfInBounds_toArray, List.set_cons_zero, List.set_cons_succ]
                  refine take_drop (i := 38) (v := undef) rfl (by kernel_rfl) (by kernel_rfl) (by kernel_rfl) (fun _ _ _ h => h) (Or.inr ⟨by rfl, rfl⟩) hS2 ?_
                  simp only [Act.put, List.setIfInBounds_toArray, List.set_cons_zero, List.set_cons_succ]
                  refine take_drop (i := 39) (v := undef) rfl (by kernel_rfl) (by kernel_rfl) (by kernel_rfl) (fun _ _ _ h => h) (Or.inr ⟨by rfl, rfl⟩) hS2 ?_
                  simp only [Act.put, List.setIfInBounds_toArray, List.set_cons_zero, List.set_cons_succ]
                  refine take_drop (i := 40) (v := ?v40_10) rfl (by kernel_rfl) (by kernel_rfl) (by kernel_rfl) (fun _ _ _ h => h) (Or.inl ⟨by rfl, ?h40_10⟩) hS2 ?r40_10
                  case h40_10 => (intro wS hSw; obtain ⟨s0, s1, s2, s3⟩ := hSw; go_simp; all_goals (with_reducible rfl))
                  simp only [Act.put, List.setIfInBounds_toArray, List.set_cons_zero, List.set_cons_succ]
                  refine take_drop (i := 41) (v := ?v41_10) rfl (by kernel_rfl) (by kernel_rfl) (by kernel_rfl) (fun _ _ _ h => h) (Or.inl ⟨by rfl, ?h41_10⟩) hS2 ?r41_10
                  case h41_10 => (intro wS hSw; obtain ⟨s0, s1, s2, s3⟩ := hSw; go_simp; all_goals (with_reducible rfl))
                  simp only [Act.put, List.setIfInBounds_toArray, List.set_cons_zero, List.set_cons_succ]
                  refine wpAnyH_done (by kernel_rfl) ?_ _

                  go_wp2_with fail
                  go_roundw
                  case rel => exact ⟨j + 1, (s : Int), X8, Y8, by simp, by omega, by first | rfl | simp | (congr 1; omega), by omega, HC10.out, HL10.out, HY8.out, HX8.out, HS10.out, HF10.out⟩
                  case measure => simp [intOf]; omega
          by_cases hk5 : kd = 5
          · as_aux_lemma =>
              have hkd : kd = 5 := hk5
              subst hkd
              clear hk1 hk2 hk3 hk4 hk5
              have HMV := Lib.hid (HK.out.seek ks HC7.out)
              have HCP := Lib.hid (fun w (h : InP w XL oa L) => refCeil_c XL oa oc L ks w (by rw [HML.out]; omega) h)
              rw [HML.out] at HCP
              have hcl : ceilP L ks ≤ m := by rw [← HML.out]; exact List.findIdx_le_length
              obtain ⟨tn, htn⟩ : ∃ z, ceilP L ks = z := ⟨_, rfl⟩
              rw [htn] at HCP hcl
              have HTN := Lib.hid htn
              clear htn
              by_cases hz : tn < m
              · have hn : tn < m := hz
                have g1 : decide ((m : Int) ≤ (tn : Int)) = false := by first | (rw [decide_eq_true_eq]; omega) | (rw [decide_eq_false_iff_not]; omega)
                go_wp2_with fail
                refine HMV.out.mono ?_
                rintro e w8 ⟨rfl, X8, Y8, hC8, hX8, hY8, f8⟩
                rw [show seekI L ks = (tn : Int) by unfold seekI; rw [HTN.out, HML.out, if_pos hz]] at hC8
                rw [show seekI L ks = (tn : Int) by unfold seekI; rw [HTN.out, HML.out, if_pos hz]]
                rw [show decide ((0 : Int) ≤ (tn : Int)) = true by first | (rw [decide_eq_true_eq]; omega) | (rw [decide_eq_false_iff_not]; omega)]
                have HC8 := Lib.hid hC8
                have HL8 := Lib.hid (HL7.out.keep f8 (fun k hk hy => HXr.out k hy hk))
                have HF8 : Hid (Fr No W w8) := Lib.hid (HF7.out.then_ f8 fun k hk hy => absurd (HYr.out k hy) (by omega))
                have HY8 : Hid (∀ k, Y8 k → W.heap.size ≤ k) := Lib.hid fun k hk => (hY8 k hk).elim (HYr.out k) (fun h => Nat.le_trans HF7.out.size h.1)
                have HX8 : Hid (∀ k, Y8 k → ¬ XL k) := Lib.hid fun k hk h => (hY8 k hk).elim (fun hy => HXr.out k hy h) (fun hn => by
                  have h1 := HXB.out k h
                  have h2 := HSZ.out
                  have h3 := HG7.out.size
                  omega)
                have HS8 : Hid (w6.heap.size ≤ w8.heap.size) := Lib.hid (Nat.le_trans (Nat.le_trans HSZ.out HG7.out.size) f8.size)
                have e3 := f8.cell e1 (fun hy => HOB.out _ hy rfl)
                clear hC8 hX8 hY8 f8 e0 e1
                go_wp2_with fail
                refine (HCP.out w8 HL8.out).mono ?_
                rintro e w8' ⟨rfl, rfl⟩
                have HIT := HK.out.item HC8.out
                rw [show itemI L ((tn : Int)) = L.getD tn p20 by unfold itemI; rw [if_pos (by omega)]; congr 1] at HIT
                have HCEL : Hid (∀ w', Fr No w8 w' → ∃ g p, oa = some ⟨g, p, none⟩ ∧ w'.cell? ⟨g, p + tn * 2, none⟩ = some (.int .i64 (L.getD tn p20).1) ∧ w'.cell? ⟨g, p + tn * 2 + 1, none⟩ = some (.int .i64 (L.getD tn p20).2)) := Lib.hid fun w' f => by
                  obtain ⟨g, p, _, hg, hc⟩ := HL8.out (by rw [HML.out]; omega)
                  exact ⟨g, p, hg, f.cell (hc tn (by rw [HML.out]; exact hn)).1 (fun h => h), f.cell (hc tn (by rw [HML.out]; exact hn)).2 (fun h => h)⟩
                generalize (L.getD tn p20).1 = xk at *
                generalize (L.getD tn p20).2 = xv at *
                have HIT := Lib.hid HIT
                go_wp2_with fail
                refine HIT.out.mono ?_
                rintro e w9 ⟨rfl, f9⟩
                have HC9 := HK.out.keep HC8.out f9 (fun _ _ h => h)
                have HL9 := HL8.out.keep f9 (fun _ _ h => h)
                have HF9 := HF8.out.trans f9
                have fB := (Fr.refl No w9).alloc (.cells #[.int .i64 xk, .int .i64 xv] 49)
                have x0 : (w9.alloc (.cells #[.int .i64 xk, .int .i64 xv] 49)).drew.cell? ⟨w9.heap.size, 0, none⟩ = some (.int .i64 xk) := (At.new w9 49 #[.int .i64 xk, .int .i64 xv]).cell 0
                have x1 : (w9.alloc (.cells #[.int .i64 xk, .int .i64 xv] 49)).drew.cell? ⟨w9.heap.size, 1, none⟩ = some (.int .i64 xv) := (At.new w9 49 #[.int .i64 xk, .int .i64 xv]).cell 1
                have HCD := Lib.hid (HK.out.keep HC9 fB.drew (fun _ _ h => h))
                have HLD := Lib.hid (HL9.keep fB.drew (fun _ _ h => h))
                have HFD := Lib.hid (HF9.trans fB.drew)
                have HSD := Lib.hid (Nat.le_trans HS8.out (f9.trans fB.drew).size)
                have HV9 := HK.out.valid HCD.out
                rw [show decide ((0 : Int) ≤ (tn : Int)) = true by first | (rw [decide_eq_true_eq]; omega) | (rw [decide_eq_false_iff_not]; omega)] at HV9
                have HV9 := Lib.hid HV9
                have bn0 : (0 : Int) ≤ (tn : Int) := by omega
                have bn1 : (tn : Int) < (m : Int) := by omega
                obtain ⟨lg, lp, rfl, l0, l1⟩ := HCEL.out _ (f9.trans fB.drew)
                have r1 : (xk == xk) = true := by simp
                have r2 : (xv == xv) = true := by simp
                have r3 : decide ((0 : Int) ≤ (tn : Int)) = true := by first | (rw [decide_eq_true_eq]; omega) | (rw [decide_eq_false_iff_not]; omega)
                clear f9 HC9 HL9 HF9 fB
                try clear e3
                try clear e0 e1
                go_wp2_with fail
                refine wp_region_held_drew (S := fun w' => w'.cell? ⟨w9.heap.size, 0, none⟩ = some (.int .i64 xk) ∧ w'.cell? ⟨w9.heap.size, 1, none⟩ = some (.int .i64 xv) ∧ w'.cell? ⟨lg, lp + tn * 2, none⟩ = some (.int .i64 xk) ∧ w'.cell? ⟨lg, lp + tn * 2 + 1, none⟩ = some (.int .i64 xv)) (by kernel_rfl) ⟨x0, x1, l0, l1⟩ (fun hHeld => ?_)
                refine take_drop (i := 0) (v := ?v0_11) rfl (by kernel_rfl) (by kernel_rfl) (by kernel_rfl) (fun _ _ _ h => h) (Or.inl ⟨by rfl, ?h0_11⟩) hHeld ?r0_11
                case h0_11 => (intro wS hSw; obtain ⟨s0, s1, s2, s3⟩ := hSw; go_simp; all_goals (with_reducible rfl))
                simp only [Act.put, List.setIfInBounds_toArray, List.set_cons_zero, List.set_cons_succ]
                refine take_drop (i := 1) (v := ?v1_11) rfl (by kernel_rfl) (by kernel_rfl) (by kernel_rfl) (fun _ _ _ h => h) (Or.inl ⟨by rfl, ?h1_11⟩) hHeld ?r1_11
                case h1_11 => (intro wS hSw; obtain ⟨s0, s1, s2, s3⟩ := hSw; go_simp; all_goals (with_reducible rfl))
                simp only [Act.put, List.setIfInBounds_toArray, List.set_cons_zero, List.set_cons_succ]
                refine take_drop (i := 2) (v := ?v2_11) rfl (by kernel_rfl) (by kernel_rfl) (by kernel_rfl) (fun _ _ _ h => h) (Or.inl ⟨by rfl, ?h2_11⟩) hHeld ?r2_11
                case h2_11 => (intro wS hSw; obtain ⟨s0, s1, s2, s3⟩ := hSw; go_simp; all_goals (with_reducible rfl))
                simp only [Act.put, List.setIfInBounds_toArray, List.set_cons_zero, List.set_cons_succ]
                refine take_drop (i := 3) (v := ?v3_11) rfl (by kernel_rfl) (by kernel_rfl) (by kernel_rfl) (fun _ _ _ h => h) (Or.inl ⟨by rfl, ?h3_11⟩) hHeld ?r3_11
                case h3_11 => (intro wS hSw; obtain ⟨s0, s1, s2, s3⟩ := hSw; go_simp; all_goals (with_reducible rfl))
                simp only [Act.put, List.setIfInBounds_toArray, List.set_cons_zero, List.set_cons_succ]
                refine take_drop (i := 4) (v := ?v4_11) rfl (by kernel_rfl) (by kernel_rfl) (by kernel_rfl) (fun _ _ _ h => h) (Or.inl ⟨by rfl, ?h4_11⟩) hHeld ?r4_11
                case h4_11 => (intro wS hSw; obtain ⟨s0, s1, s2, s3⟩ := hSw; go_simp; all_goals (with_reducible rfl))
                simp only [Act.put, List.setIfInBounds_toArray, List.set_cons_zero, List.set_cons_succ]
                refine take_drop (i := 5) (v := ?v5_11) rfl (by kernel_rfl) (by kernel_rfl) (by kernel_rfl) (fun _ _ _ h => h) (Or.inl ⟨by rfl, ?h5_11⟩) hHeld ?r5_11
                case h5_11 => (intro wS hSw; obtain ⟨s0, s1, s2, s3⟩ := hSw; go_simp; all_goals (with_reducible rfl))
                simp only [Act.put, List.setIfInBounds_toArray, List.set_cons_zero, List.set_cons_succ]
                refine take_drop (i := 7) (v := ?v7_11) rfl (by kernel_rfl) (by kernel_rfl) (by kernel_rfl) (fun _ _ _ h => h) (Or.inl ⟨by rfl, ?h7_11⟩) hHeld ?r7_11
                case h7_11 => (intro wS hSw; obtain ⟨s0, s1, s2, s3⟩ := hSw; go_simp; all_goals (with_reducible rfl))
                simp only [Act.put, List.setIfInBounds_toArray, List.set_cons_zero, List.set_cons_succ]
                refine wpAnyH_ready (rs := [6]) (by kernel_rfl) (by simp) ?_
                refine do_drop (i := 6) rfl (fun K hK => ?_) AllReadyH.nil
                go_simp
                refine HV9.out.mono ?_
                rintro e w10 ⟨rfl, f10⟩
                have y0 := f10.cell x0 (fun h => h)
                have y1 := f10.cell x1 (fun h => h)
                have y2 := f10.cell l0 (fun h => h)
                have y3 := f10.cell l1 (fun h => h)
                have HC10 := Lib.hid (HK.out.keep HCD.out f10 (fun _ _ h => h))
                have HL10 := Lib.hid (HLD.out.keep f10 (fun _ _ h => h))
                have HF10 := Lib.hid (HFD.out.trans f10)
                have HS10 := Lib.hid (Nat.le_trans HSD.out f10.size)
                clear f10 hHeld
                refine hK.out _ _ ⟨y0, y1, y2, y3⟩ ?_
                clear hK K
                try simp only [Act.put, List.setIfInBounds_toArray, List.set_cons_zero, List.set_cons_succ]
                have hS2 := And.intro y0 (And.intro y1 (And.intro y2 y3))
                refine take_drop (i := 8) (v := ?v8_11) rfl (by kernel_rfl) (by kernel_rfl) (by kernel_rfl) (fun _ _ _ h => h) (Or.inl ⟨by rfl, ?h8_11⟩) hS2 ?r8_11
                case h8_11 => (intro wS hSw; obtain ⟨s0, s1, s2, s3⟩ := hSw; go_simp; all_goals (with_reducible rfl))
                simp only [Act.put, List.setIfInBounds_toArray, List.set_cons_zero, List.set_cons_succ]
                refine take_drop (i := 9) (v := ?v9_11) rfl (by kernel_rfl) (by kernel_rfl) (by kernel_rfl) (fun _ _ _ h => h) (Or.inl ⟨by rfl, ?h9_11⟩) hS2 ?r9_11
                case h9_11 => (intro wS hSw; obtain ⟨s0, s1, s2, s3⟩ := hSw; go_simp; all_goals (with_reducible rfl))
                simp only [Act.put, List.setIfInBounds_toArray, List.set_cons_zero, List.set_cons_succ]
                refine take_drop (i := 10) (v := ?v10_11) rfl (by kernel_rfl) (by kernel_rfl) (by kernel_rfl) (fun _ _ _ h => h) (Or.inl ⟨by rfl, ?h10_11⟩) hS2 ?r10_11
                case h10_11 => (intro wS hSw; obtain ⟨s0, s1, s2, s3⟩ := hSw; go_simp; all_goals (with_reducible rfl))
                simp only [Act.put, List.setIfInBounds_toArray, List.set_cons_zero, List.set_cons_succ]
                refine take_drop (i := 11) (v := ?v11_11) rfl (by kernel_rfl) (by kernel_rfl) (by kernel_rfl) (fun _ _ _ h => h) (Or.inl ⟨by rfl, ?h11_11⟩) hS2 ?r11_11
                case h11_11 => (intro wS hSw; obtain ⟨s0, s1, s2, s3⟩ := hSw; go_simp; all_goals (with_reducible rfl))
                simp only [Act.put, List.setIfInBounds_toArray, List.set_cons_zero, List.set_cons_succ]
                refine take_drop (i := 12) (v := ?v12_11) rfl (by kernel_rfl) (by kernel_rfl) (by kernel_rfl) (fun _ _ _ h => h) (Or.inl ⟨by rfl, ?h12_11⟩) hS2 ?r12_11
                case h12_11 => (intro wS hSw; obtain ⟨s0, s1, s2, s3⟩ := hSw; go_simp; all_goals (with_reducible rfl))
                simp only [Act.put, List.setIfInBounds_toArray, List.set_cons_zero, List.set_cons_succ]
                refine take_drop (i := 13) (v := ?v13_11) rfl (by kernel_rfl) (by kernel_rfl) (by kernel_rfl) (fun _ _ _ h => h) (Or.inl ⟨by rfl, ?h13_11⟩) hS2 ?r13_11
                case h13_11 => (intro wS hSw; obtain ⟨s0, s1, s2, s3⟩ := hSw; go_simp; all_goals (with_reducible rfl))
                simp only [Act.put, List.setIfInBounds_toArray, List.set_cons_zero, List.set_cons_succ]
                refine take_drop (i := 14) (v := ?v14_11) rfl (by kernel_rfl) (by kernel_rfl) (by kernel_rfl) (fun _ _ _ h => h) (Or.inl ⟨by rfl, ?h14_11⟩) hS2 ?r14_11
                case h14_11 => (intro wS hSw; obtain ⟨s0, s1, s2, s3⟩ := hSw; go_simp; all_goals (with_reducible rfl))
                simp only [Act.put, List.setIfInBounds_toArray, List.set_cons_zero, List.set_cons_succ]
                refine take_drop (i := 15) (v := ?v15_11) rfl (by kernel_rfl) (by kernel_rfl) (by kernel_rfl) (fun _ _ _ h => h) (Or.inl ⟨by rfl, ?h15_11⟩) hS2 ?r15_11
                case h15_11 => (intro wS hSw; obtain ⟨s0, s1, s2, s3⟩ := hSw; go_simp; all_goals (with_reducible rfl))
                simp only [Act.put, List.setIfInBounds_toArray, List.set_cons_zero, List.set_cons_succ]
                refine take_drop (i := 16) (v := ?v16_11) rfl (by kernel_rfl) (by kernel_rfl) (by kernel_rfl) (fun _ _ _ h => h) (Or.inl ⟨by rfl, ?h16_11⟩) hS2 ?r16_11
                case h16_11 => (intro wS hSw; obtain ⟨s0, s1, s2, s3⟩ := hSw; go_simp; all_goals (with_reducible rfl))
                simp only [Act.put, List.setIfInBounds_toArray, List.set_cons_zero, List.set_cons_succ]
                refine take_drop (i := 17) (v := ?v17_11) rfl (by kernel_rfl) (by kernel_rfl) (by kernel_rfl) (fun _ _ _ h => h) (Or.inl ⟨by rfl, ?h17_11⟩) hS2 ?r17_11
                case h17_11 => (intro wS hSw; obtain ⟨s0, s1, s2, s3⟩ := hSw; go_simp; all_goals (with_reducible rfl))
                simp only [Act.put, List.setIfInBounds_toArray, List.set_cons_zero, List.set_cons_succ]
                refine take_drop (i := 18) (v := ?v18_11) rfl (by kernel_rfl) (by kernel_rfl) (by kernel_rfl) (fun _ _ _ h => h) (Or.inl ⟨by rfl, ?h18_11⟩) hS2 ?r18_11
                case h18_11 => (intro wS hSw; obtain ⟨s0, s1, s2, s3⟩ := hSw; go_simp; all_goals (with_reducible rfl))
                simp only [Act.put, List.setIfInBounds_toArray, List.set_cons_zero, List.set_cons_succ]
                refine take_drop (i := 19) (v := ?v19_11) rfl (by kernel_rfl) (by kernel_rfl) (by kernel_rfl) (fun _ _ _ h => h) (Or.inl ⟨by rfl, ?h19_11⟩) hS2 ?r19_11
                case h19_11 => (intro wS hSw; obtain ⟨s0, s1, s2, s3⟩ := hSw; go_simp; all_goals (with_reducible rfl))
                simp only [Act.put, List.setIfInBounds_toArray, List.set_cons_zero, List.set_cons_succ]
                refine take_drop (i := 20) (v := ?v20_11) rfl (by kernel_rfl) (by kernel_rfl) (by kernel_rfl) (fun _ _ _ h => h) (Or.inl ⟨by rfl, ?h20_11⟩) hS2 ?r20_11
                case h20_11 => (intro wS hSw; obtain ⟨s0, s1, s2, s3⟩ := hSw; go_simp; all_goals (with_reducible rfl))
                simp only [Act.put, List.setIfInBounds_toArray, List.set_cons_zero, List.set_cons_succ]
                refine take_drop (i := 21) (v := ?v21_11) rfl (by kernel_rfl) (by kernel_rfl) (by kernel_rfl) (fun _ _ _ h => h) (Or.inl ⟨by rfl, ?h21_11⟩) hS2 ?r21_11
                case h21_11 => (intro wS hSw; obtain ⟨s0, s1, s2, s3⟩ := hSw; go_simp; all_goals (with_reducible rfl))
                simp only [Act.put, List.setIfInBounds_toArray, List.set_cons_zero, List.set_cons_succ]
                refine take_drop (i := 22) (v := ?v22_11) rfl (by kernel_rfl) (by kernel_rfl) (by kernel_rfl) (fun _ _ _ h => h) (Or.inl ⟨by rfl, ?h22_11⟩) hS2 ?r22_11
                case h22_11 => (intro wS hSw; obtain ⟨s0, s1, s2, s3⟩ := hSw; go_simp; all_goals (with_reducible rfl))
                simp only [Act.put, List.setIfInBounds_toArray, List.set_cons_zero, List.set_cons_succ]
                refine take_drop (i := 23) (v := ?v23_11) rfl (by kernel_rfl) (by kernel_rfl) (by kernel_rfl) (fun _ _ _ h => h) (Or.inl ⟨by rfl, ?h23_11⟩) hS2 ?r23_11
                case h23_11 => (intro wS hSw; obtain ⟨s0, s1, s2, s3⟩ := hSw; go_simp; all_goals (with_reducible rfl))
                simp only [Act.put, List.setIfInBounds_toArray, List.set_cons_zero, List.set_cons_succ]
                refine take_drop (i := 24) (v := ?v24_11) rfl (by kernel_rfl) (by kernel_rfl) (by kernel_rfl) (fun _ _ _ h => h) (Or.inl ⟨by rfl, ?h24_11⟩) hS2 ?r24_11
                case h24_11 => (intro wS hSw; obtain ⟨s0, s1, s2, s3⟩ := hSw; go_simp; all_goals (with_reducible rfl))
                simp only [Act.put, List.setIfInBounds_toArray, List.set_cons_zero, List.set_cons_succ]
                refine take_drop (i := 25) (v := ?v25_11) rfl (by kernel_rfl) (by kernel_rfl) (by kernel_rfl) (fun _ _ _ h => h) (Or.inl ⟨by rfl, ?h25_11⟩) hS2 ?r25_11
                case h25_11 => (intro wS hSw; obtain ⟨s0, s1, s2, s3⟩ := hSw; go_simp; all_goals (with_reducible rfl))
                simp only [Act.put, List.setIfInBounds_toArray, List.set_cons_zero, List.set_cons_succ]
                refine take_drop (i := 26) (v := ?v26_11) rfl (by kernel_rfl) (by kernel_rfl) (by kernel_rfl) (fun _ _ _ h => h) (Or.inl ⟨by rfl, ?h26_11⟩) hS2 ?r26_11
                case h26_11 => (intro wS hSw; obtain ⟨s0, s1, s2, s3⟩ := hSw; go_simp; all_goals (with_reducible rfl))
                simp only [Act.put, List.setIfInBounds_toArray, List.set_cons_zero, List.set_cons_succ]
                refine take_drop (i := 27) (v := ?v27_11) rfl (by kernel_rfl) (by kernel_rfl) (by kernel_rfl) (fun _ _ _ h => h) (Or.inl ⟨by rfl, ?h27_11⟩) hS2 ?r27_11
                case h27_11 => (intro wS hSw; obtain ⟨s0, s1, s2, s3⟩ := hSw; go_simp; all_goals (with_reducible rfl))
                simp only [Act.put, List.setIfInBounds_toArray, List.set_cons_zero, List.set_cons_succ]
                refine take_drop (i := 28) (v := ?v28_11) rfl (by kernel_rfl) (by kernel_rfl) (by kernel_rfl) (fun _ _ _ h => h) (Or.inl ⟨by rfl, ?h28_11⟩) hS2 ?r28_11
                case h28_11 => (intro wS hSw; obtain ⟨s0, s1, s2, s3⟩ := hSw; go_simp; all_goals (with_reducible rfl))
                simp only [Act.put, List.setIfInBounds_toArray, List.set_cons_zero, List.set_cons_succ]
                refine take_drop (i := 29) (v := ?v29_11) rfl (by kernel_rfl) (by kernel_rfl) (by kernel_rfl) (fun _ _ _ h => h) (Or.inl ⟨by rfl, ?h29_11⟩) hS2 ?r29_11
                case h29_11 => (intro wS hSw; obtain ⟨s0, s1, s2, s3⟩ := hSw; go_simp; all_goals (with_reducible rfl))
                simp only [Act.put, List.setIfInBounds_toArray, List.set_cons_zero, List.set_cons_succ]
                refine take_drop (i := 30) (v := ?v30_11) rfl (by kernel_rfl) (by kernel_rfl) (by kernel_rfl) (fun _ _ _ h => h) (Or.inl ⟨by rfl, ?h30_11⟩) hS2 ?r30_11
                case h30_11 => (intro wS hSw; obtain ⟨s0, s1, s2, s3⟩ := hSw; go_simp; all_goals (with_reducible rfl))
                simp only [Act.put, List.setIfInBounds_toArray, List.set_cons_zero, List.set_cons_succ]
                refine take_drop (i := 31) (v := ?v31_11) rfl (by kernel_rfl) (by kernel_rfl) (by kernel_rfl) (fun _ _ _ h => h) (Or.inl ⟨by rfl, ?h31_11⟩) hS2 ?r31_11
                case h31_11 => (intro wS hSw; obtain ⟨s0, s1, s2, s3⟩ := hSw; go_simp; all_goals (with_reducible rfl))
                simp only [Act.put, List.setIfInBounds_toArray, List.set_cons_zero, List.set_cons_succ]
                refine take_drop (i := 32) (v := ?v32_11) rfl (by kernel_rfl) (by kernel_rfl) (by kernel_rfl) (fun _ _ _ h => h) (Or.inl ⟨by rfl, ?h32_11⟩) hS2 ?r32_11
                case h32_11 => (intro wS hSw; obtain ⟨s0, s1, s2, s3⟩ := hSw; go_simp; all_goals (with_reducible rfl))
                simp only [Act.put, List.setIfInBounds_toArray, List.set_cons_zero, List.set_cons_succ]
                refine take_drop (i := 33) (v := ?v33_11) rfl (by kernel_rfl) (by kernel_rfl) (by kernel_rfl) (fun _ _ _ h => h) (Or.inl ⟨by rfl, ?h33_11⟩) hS2 ?r33_11
                case h33_11 => (intro wS hSw; obtain ⟨s0, s1, s2, s3⟩ := hSw; go_simp; all_goals (with_reducible rfl))
                simp only [Act.put, List.setIfInBounds_toArray, List.set_cons_zero, List.set_cons_succ]
                refine take_drop (i := 34) (v := ?v34_11) rfl (by kernel_rfl) (by kernel_rfl) (by kernel_rfl) (fun _ _ _ h => h) (Or.inl ⟨by rfl, ?h34_11⟩) hS2 ?r34_11
                case h34_11 => (intro wS hSw; obtain ⟨s0, s1, s2, s3⟩ := hSw; go_simp; all_goals (with_reducible rfl))
                simp only [Act.put, List.setIfInBounds_toArray, List.set_cons_zero, List.set_cons_succ]
                refine take_drop (i := 35) (v := ?v35_11) rfl (by kernel_rfl) (by kernel_rfl) (by kernel_rfl) (fun _ _ _ h => h) (Or.inl ⟨by rfl, ?h35_11⟩) hS2 ?r35_11
                case h35_11 => (intro wS hSw; obtain ⟨s0, s1, s2, s3⟩ := hSw; go_simp; all_goals (with_reducible rfl))
                simp only [Act.put, List.setIfInBounds_toArray, List.set_cons_zero, List.set_cons_succ]
                refine take_drop (i := 36) (v := ?v36_11) rfl (by kernel_rfl) (by kernel_rfl) (by kernel_rfl) (fun _ _ _ h => h) (Or.inl ⟨by rfl, ?h36_11⟩) hS2 ?r36_11
                case h36_11 => (intro wS hSw; obtain ⟨s0, s1, s2, s3⟩ := hSw; go_simp; all_goals (with_reducible rfl))
                simp only [Act.put, List.setIfInBounds_toArray, List.set_cons_zero, List.set_cons_succ]
                refine take_drop (i := 37) (v := undef) rfl (by kernel_rfl) (by kernel_rfl) (by kernel_rfl) (fun _ _ _ h => h) (Or.inr ⟨by rfl, rfl⟩) hS2 ?_
                simp only [Act.put, List.setIfInBounds_toArray, List.set_cons_zero, List.set_cons_succ]
                refine take_drop (i := 38) (v := undef) rfl (by kernel_rfl) (by kernel_rfl) (by kernel_rfl) (fun _ _ _ h => h) (Or.inr ⟨by rfl, rfl⟩) hS2 ?_
                simp only [Act.put, List.setIfInBounds_toArray, List.set_cons_zero, List.set_cons_succ]
                refine take_drop (i := 39) (v := undef) rfl (by kernel_rfl) (by kernel_rfl) (by kernel_rfl) (fun _ _ _ h => h) (Or.inr ⟨by rfl, rfl⟩) hS2 ?_
                simp only [Act.put, List.setIfInBounds_toArray, List.set_cons_zero, List.set_cons_succ]
                refine take_drop (i := 40) (v := ?v40_11) rfl (by kernel_rfl) (by kernel_rfl) (by kernel_rfl) (fun _ _ _ h => h) (Or.inl ⟨by rfl, ?h40_11⟩) hS2 ?r40_11
                case h40_11 => (intro wS hSw; obtain ⟨s0, s1, s2, s3⟩ := hSw; go_simp; all_goals (with_reducible rfl))
                simp only [Act.put, List.setIfInBounds_toArray, List.set_cons_zero, List.set_cons_succ]
                refine take_drop (i := 41) (v := ?v41_11) rfl (by kernel_rfl) (by kernel_rfl) (by kernel_rfl) (fun _ _ _ h => h) (Or.inl ⟨by rfl, ?h41_11⟩) hS2 ?r41_11
                case h41_11 => (intro wS hSw; obtain ⟨s0, s1, s2, s3⟩ := hSw; go_simp; all_goals (with_reducible rfl))
                simp only [Act.put, List.setIfInBounds_toArray, List.set_cons_zero, List.set_cons_succ]
                refine wpAnyH_done (by kernel_rfl) ?_ _

                go_wp2_with fail
                go_roundw
                case rel => exact ⟨j + 1, (tn : Int), X8, Y8, by simp, by omega, by first | rfl | simp | (congr 1; omega), by omega, HC10.out, HL10.out, HY8.out, HX8.out, HS10.out, HF10.out⟩
                case measure => simp [intOf]; omega
              · have g1 : decide ((m : Int) ≤ (tn : Int)) = true := by first | (rw [decide_eq_true_eq]; omega) | (rw [decide_eq_false_iff_not]; omega)
                go_wp2_with fail
                refine HMV.out.mono ?_
                rintro e w8 ⟨rfl, X8, Y8, hC8, hX8, hY8, f8⟩
                rw [show seekI L ks = -1 by unfold seekI; rw [HTN.out, HML.out, if_neg hz]] at hC8
                rw [show seekI L ks = -1 by unfold seekI; rw [HTN.out, HML.out, if_neg hz]]
                rw [show decide ((0 : Int) ≤ -1) = false by first | (rw [decide_eq_true_eq]; omega) | (rw [decide_eq_false_iff_not]; omega)]
                have HC8 := Lib.hid hC8
                have HL8 := Lib.hid (HL7.out.keep f8 (fun k hk hy => HXr.out k hy hk))
                have HF8 : Hid (Fr No W w8) := Lib.hid (HF7.out.then_ f8 fun k hk hy => absurd (HYr.out k hy) (by omega))
                have HY8 : Hid (∀ k, Y8 k → W.heap.size ≤ k) := Lib.hid fun k hk => (hY8 k hk).elim (HYr.out k) (fun h => Nat.le_trans HF7.out.size h.1)
                have HX8 : Hid (∀ k, Y8 k → ¬ XL k) := Lib.hid fun k hk h => (hY8 k hk).elim (fun hy => HXr.out k hy h) (fun hn => by
                  have h1 := HXB.out k h
                  have h2 := HSZ.out
                  have h3 := HG7.out.size
                  omega)
                have HS8 : Hid (w6.heap.size ≤ w8.heap.size) := Lib.hid (Nat.le_trans (Nat.le_trans HSZ.out HG7.out.size) f8.size)
                have e3 := f8.cell e1 (fun hy => HOB.out _ hy rfl)
                clear hC8 hX8 hY8 f8 e0 e1
                go_wp2_with fail
                refine (HCP.out w8 HL8.out).mono ?_
                rintro e w8' ⟨rfl, rfl⟩
                have HIT := HK.out.item HC8.out
                rw [show itemI L (-1) = (0, 0) by unfold itemI; rw [if_neg (by omega)]] at HIT
                have HIT := Lib.hid HIT
                go_wp2_with fail
                refine HIT.out.mono ?_
                rintro e w9 ⟨rfl, f9⟩
                have HC9 := HK.out.keep HC8.out f9 (fun _ _ h => h)
                have HL9 := HL8.out.keep f9 (fun _ _ h => h)
                have HF9 := HF8.out.trans f9
                have fB := (Fr.refl No w9).alloc (.cells #[.int .i64 0, .int .i64 0] 49)
                have x0 : (w9.alloc (.cells #[.int .i64 0, .int .i64 0] 49)).drew.cell? ⟨w9.heap.size, 0, none⟩ = some (.int .i64 0) := (At.new w9 49 #[.int .i64 0, .int .i64 0]).cell 0
                have x1 : (w9.alloc (.cells #[.int .i64 0, .int .i64 0] 49)).drew.cell? ⟨w9.heap.size, 1, none⟩ = some (.int .i64 0) := (At.new w9 49 #[.int .i64 0, .int .i64 0]).cell 1
                have HCD := Lib.hid (HK.out.keep HC9 fB.drew (fun _ _ h => h))
                have HLD := Lib.hid (HL9.keep fB.drew (fun _ _ h => h))
                have HFD := Lib.hid (HF9.trans fB.drew)
                have HSD := Lib.hid (Nat.le_trans HS8.out (f9.trans fB.drew).size)
                have HV9 := HK.out.valid HCD.out
                rw [show decide ((0 : Int) ≤ -1) = false by first | (rw [decide_eq_true_eq]; omega) | (rw [decide_eq_false_iff_not]; omega)] at HV9
                have HV9 := Lib.hid HV9
                have r3 : decide ((0 : Int) ≤ -1) = false := by first | (rw [decide_eq_true_eq]; omega) | (rw [decide_eq_false_iff_not]; omega)
                clear f9 HC9 HL9 HF9 fB
                try clear e3
                try clear e0 e1
                go_wp2_with fail
                refine wp_region_held_drew (S := fun w' => w'.cell? ⟨w9.heap.size, 0, none⟩ = some (.int .i64 0) ∧ w'.cell? ⟨w9.heap.size, 1, none⟩ = some (.int .i64 0)) (by kernel_rfl) ⟨x0, x1⟩ (fun hHeld => ?_)
                refine take_drop (i := 0) (v := ?v0_12) rfl (by kernel_rfl) (by kernel_rfl) (by kernel_rfl) (fun _ _ _ h => h) (Or.inl ⟨by rfl, ?h0_12⟩) hHeld ?r0_12
                case h0_12 => (intro wS hSw; obtain ⟨s0, s1⟩ := hSw; go_simp; all_goals (with_reducible rfl))
                simp only [Act.put, List.setIfInBounds_toArray, List.set_cons_zero, List.set_cons_succ]
                refine take_drop (i := 1) (v := ?v1_12) rfl (by kernel_rfl) (by kernel_rfl) (by kernel_rfl) (fun _ _ _ h => h) (Or.inl ⟨by rfl, ?h1_12⟩) hHeld ?r1_12
                case h1_12 => (intro wS hSw; obtain ⟨s0, s1⟩ := hSw; go_simp; all_goals (with_reducible rfl))
                simp only [Act.put, List.setIfInBounds_toArray, List.set_cons_zero, List.set_cons_succ]
                refine take_drop (i := 2) (v := ?v2_12) rfl (by kernel_rfl) (by kernel_rfl) (by kernel_rfl) (fun _ _ _ h => h) (Or.inl ⟨by rfl, ?h2_12⟩) hHeld ?r2_12
                case h2_12 => (intro wS hSw; obtain ⟨s0, s1⟩ := hSw; go_simp; all_goals (with_reducible rfl))
                simp only [Act.put, List.setIfInBounds_toArray, List.set_cons_zero, List.set_cons_succ]
                refine take_drop (i := 3) (v := ?v3_12) rfl (by kernel_rfl) (by kernel_rfl) (by kernel_rfl) (fun _ _ _ h => h) (Or.inl ⟨by rfl, ?h3_12⟩) hHeld ?r3_12
                case h3_12 => (intro wS hSw; obtain ⟨s0, s1⟩ := hSw; go_simp; all_goals (with_reducible rfl))
                simp only [Act.put, List.setIfInBounds_toArray, List.set_cons_zero, List.set_cons_succ]
                refine take_drop (i := 4) (v := ?v4_12) rfl (by kernel_rfl) (by kernel_rfl) (by kernel_rfl) (fun _ _ _ h => h) (Or.inl ⟨by rfl, ?h4_12⟩) hHeld ?r4_12
                case h4_12 => (intro wS hSw; obtain ⟨s0, s1⟩ := hSw; go_simp; all_goals (with_reducible rfl))
                simp only [Act.put, List.setIfInBounds_toArray, List.set_cons_zero, List.set_cons_succ]
                refine take_drop (i := 5) (v := ?v5_12) rfl (by kernel_rfl) (by kernel_rfl) (by kernel_rfl) (fun _ _ _ h => h) (Or.inl ⟨by rfl, ?h5_12⟩) hHeld ?r5_12
                case h5_12 => (intro wS hSw; obtain ⟨s0, s1⟩ := hSw; go_simp; all_goals (with_reducible rfl))
                simp only [Act.put, List.setIfInBounds_toArray, List.set_cons_zero, List.set_cons_succ]
                refine take_drop (i := 7) (v := ?v7_12) rfl (by kernel_rfl) (by kernel_rfl) (by kernel_rfl) (fun _ _ _ h => h) (Or.inl ⟨by rfl, ?h7_12⟩) hHeld ?r7_12
                case h7_12 => (intro wS hSw; obtain ⟨s0, s1⟩ := hSw; go_simp; all_goals (with_reducible rfl))
                simp only [Act.put, List.setIfInBounds_toArray, List.set_cons_zero, List.set_cons_succ]
                refine wpAnyH_ready (rs := [6]) (by kernel_rfl) (by simp) ?_
                refine do_drop (i := 6) rfl (fun K hK => ?_) AllReadyH.nil
                go_simp
                refine HV9.out.mono ?_
                rintro e w10 ⟨rfl, f10⟩
                have y0 := f10.cell x0 (fun h => h)
                have y1 := f10.cell x1 (fun h => h)
                have HC10 := Lib.hid (HK.out.keep HCD.out f10 (fun _ _ h => h))
                have HL10 := Lib.hid (HLD.out.keep f10 (fun _ _ h => h))
                have HF10 := Lib.hid (HFD.out.trans f10)
                have HS10 := Lib.hid (Nat.le_trans HSD.out f10.size)
                clear f10 hHeld
                refine hK.out _ _ ⟨y0, y1⟩ ?_
                clear hK K
                try simp only [Act.put, List.setIfInBounds_toArray, List.set_cons_zero, List.set_cons_succ]
                have hS2 := And.intro y0 y1
                refine take_drop (i := 8) (v := ?v8_12) rfl (by kernel_rfl) (by kernel_rfl) (by kernel_rfl) (fun _ _ _ h => h) (Or.inl ⟨by rfl, ?h8_12⟩) hS2 ?r8_12
                case h8_12 => (intro wS hSw; obtain ⟨s0, s1⟩ := hSw; go_simp; all_goals (with_reducible rfl))
                simp only [Act.put, List.setIfInBounds_toArray, List.set_cons_zero, List.set_cons_succ]
                refine take_drop (i := 9) (v := ?v9_12) rfl (by kernel_rfl) (by kernel_rfl) (by kernel_rfl) (fun _ _ _ h => h) (Or.inl ⟨by rfl, ?h9_12⟩) hS2 ?r9_12
                case h9_12 => (intro wS hSw; obtain ⟨s0, s1⟩ := hSw; go_simp; all_goals (with_reducible rfl))
                simp only [Act.put, List.setIfInBounds_toArray, List.set_cons_zero, List.set_cons_succ]
                refine take_drop (i := 10) (v := ?v10_12) rfl (by kernel_rfl) (by kernel_rfl) (by kernel_rfl) (fun _ _ _ h => h) (Or.inl ⟨by rfl, ?h10_12⟩) hS2 ?r10_12
                case h10_12 => (intro wS hSw; obtain ⟨s0, s1⟩ := hSw; go_simp; all_goals (with_reducible rfl))
                simp only [Act.put, List.setIfInBounds_toArray, List.set_cons_zero, List.set_cons_succ]
                refine take_drop (i := 11) (v := ?v11_12) rfl (by kernel_rfl) (by kernel_rfl) (by kernel_rfl) (fun _ _ _ h => h) (Or.inl ⟨by rfl, ?h11_12⟩) hS2 ?r11_12
                case h11_12 => (intro wS hSw; obtain ⟨s0, s1⟩ := hSw; go_simp; all_goals (with_reducible rfl))
                simp only [Act.put, List.setIfInBounds_toArray, List.set_cons_zero, List.set_cons_succ]
                refine take_drop (i := 12) (v := ?v12_12) rfl (by kernel_rfl) (by kernel_rfl) (by kernel_rfl) (fun _ _ _ h => h) (Or.inl ⟨by rfl, ?h12_12⟩) hS2 ?r12_12
                case h12_12 => (intro wS hSw; obtain ⟨s0, s1⟩ := hSw; go_simp; all_goals (with_reducible rfl))
                simp only [Act.put, List.setIfInBounds_toArray, List.set_cons_zero, List.set_cons_succ]
                refine take_drop (i := 13) (v := undef) rfl (by kernel_rfl) (by kernel_rfl) (by kernel_rfl) (fun _ _ _ h => h) (Or.inr ⟨by rfl, rfl⟩) hS2 ?_
                simp only [Act.put, List.setIfInBounds_toArray, List.set_cons_zero, List.set_cons_succ]
                refine take_drop (i := 14) (v := undef) rfl (by kernel_rfl) (by kernel_rfl) (by kernel_rfl) (fun _ _ _ h => h) (Or.inr ⟨by rfl, rfl⟩) hS2 ?_
                simp only [Act.put, List.setIfInBounds_toArray, List.set_cons_zero, List.set_cons_succ]
                refine take_drop (i := 15) (v := undef) rfl (by kernel_rfl) (by kernel_rfl) (by kernel_rfl) (fun _ _ _ h => h) (Or.inr ⟨by rfl, rfl⟩) hS2 ?_
                simp only [Act.put, List.setIfInBounds_toArray, List.set_cons_zero, List.set_cons_succ]
                refine take_drop (i := 16) (v := undef) rfl (by kernel_rfl) (by kernel_rfl) (by kernel_rfl) (fun _ _ _ h => h) (Or.inr ⟨by rfl, rfl⟩) hS2 ?_
                simp only [Act.put, List.setIfInBounds_toArray, List.set_cons_zero, List.set_cons_succ]
                refine take_drop (i := 17) (v := undef) rfl (by kernel_rfl) (by kernel_rfl) (by kernel_rfl) (fun _ _ _ h => h) (Or.inr ⟨by rfl, rfl⟩) hS2 ?_
                simp only [Act.put, List.setIfInBounds_toArray, List.set_cons_zero, List.set_cons_succ]
                refine take_drop (i := 18) (v := undef) rfl (by kernel_rfl) (by kernel_rfl) (by kernel_rfl) (fun _ _ _ h => h) (Or.inr ⟨by rfl, rfl⟩) hS2 ?_
                simp only [Act.put, List.setIfInBounds_toArray, List.set_cons_zero, List.set_cons_succ]
                refine take_drop (i := 19) (v := undef) rfl (by kernel_rfl) (by kernel_rfl) (by kernel_rfl) (fun _ _ _ h => h) (Or.inr ⟨by rfl, rfl⟩) hS2 ?_
                simp only [Act.put, List.setIfInBounds_toArray, List.set_cons_zero, List.set_cons_succ]
                refine take_drop (i := 20) (v := undef) rfl (by kernel_rfl) (by kernel_rfl) (by kernel_rfl) (fun _ _ _ h => h) (Or.inr ⟨by rfl, rfl⟩) hS2 ?_
                simp only [Act.put, List.setIfInBounds_toArray, List.set_cons_zero, List.set_cons_succ]
                refine take_drop (i := 21) (v := undef) rfl (by kernel_rfl) (by kernel_rfl) (by kernel_rfl) (fun _ _ _ h => h) (Or.inr ⟨by rfl, rfl⟩) hS2 ?_
                simp only [Act.put, List.setIfInBounds_toArray, List.set_cons_zero, List.set_cons_succ]
                refine take_drop (i := 22) (v := undef) rfl (by kernel_rfl) (by kernel_rfl) (by kernel_rfl) (fun _ _ _ h => h) (Or.inr ⟨by rfl, rfl⟩) hS2 ?_
                simp only [Act.put, List.setIfInBounds_toArray, List.set_cons_zero, List.set_cons_succ]
                refine take_drop (i := 23) (v := undef) rfl (by kernel_rfl) (by kernel_rfl) (by kernel_rfl) (fun _ _ _ h => h) (Or.inr ⟨by rfl, rfl⟩) hS2 ?_
                simp only [Act.put, List.setIfInBounds_toArray, List.set_cons_zero, List.set_cons_succ]
                refine take_drop (i := 24) (v := undef) rfl (by kernel_rfl) (by kernel_rfl) (by kernel_rfl) (fun _ _ _ h => h) (Or.inr ⟨by rfl, rfl⟩) hS2 ?_
                simp only [Act.put, List.setIfInBounds_toArray, List.set_cons_zero, List.set_cons_succ]
                refine take_drop (i := 25) (v := undef) rfl (by kernel_rfl) (by kernel_rfl) (by kernel_rfl) (fun _ _ _ h => h) (Or.inr ⟨by rfl, rfl⟩) hS2 ?_
                simp only [Act.put, List.setIfInBounds_toArray, List.set_cons_zero, List.set_cons_succ]
                refine take_drop (i := 26) (v := undef) rfl (by kernel_rfl) (by kernel_rfl) (by kernel_rfl) (fun _ _ _ h => h) (Or.inr ⟨by rfl, rfl⟩) hS2 ?_
                simp only [Act.put, List.setIfInBounds_toArray, List.set_cons_zero, List.set_cons_succ]
                refine take_drop (i := 27) (v := undef) rfl (by kernel_rfl) (by kernel_rfl) (by kernel_rfl) (fun _ _ _ h => h) (Or.inr ⟨by rfl, rfl⟩) hS2 ?_
                simp only [Act.put, List.setIfInBounds_toArray, List.set_cons_zero, List.set_cons_succ]
                refine take_drop (i := 28) (v := undef) rfl (by kernel_rfl) (by kernel_rfl) (by kernel_rfl) (fun _ _ _ h => h) (Or.inr ⟨by rfl, rfl⟩) hS2 ?_
                simp only [Act.put, List.setIfInBounds_toArray, List.set_cons_zero, List.set_cons_succ]
                refine take_drop (i := 29) (v := undef) rfl (by kernel_rfl) (by kernel_rfl) (by kernel_rfl) (fun _ _ _ h => h) (Or.inr ⟨by rfl, rfl⟩) hS2 ?_
                simp only [Act.put, List.setIfInBounds_toArray, List.set_cons_zero, List.set_cons_succ]
                refine take_drop (i := 30) (v := undef) rfl (by kernel_rfl) (by kernel_rfl) (by kernel_rfl) (fun _ _ _ h => h) (Or.inr ⟨by rfl, rfl⟩) hS2 ?_
                simp only [Act.put, List.setIfInBounds_toArray, List.set_cons_zero, List.set_cons_succ]
                refine take_drop (i := 31) (v := ?v31_12) rfl (by kernel_rfl) (by kernel_rfl) (by kernel_rfl) (fun _ _ _ h => h) (Or.inl ⟨by rfl, ?h31_12⟩) hS2 ?r31_12
                case h31_12 => (intro wS hSw; obtain ⟨s0, s1⟩ := hSw; go_simp; all_goals (with_reducible rfl))
                simp only [Act.put, List.setIfInBounds_toArray, List.set_cons_zero, List.set_cons_succ]
                refine take_drop (i := 32) (v := ?v32_12) rfl (by kernel_rfl) (by kernel_rfl) (by kernel_rfl) (fun _ _ _ h => h) (Or.inl ⟨by rfl, ?h32_12⟩) hS2 ?r32_12
                case h32_12 => (intro wS hSw; obtain ⟨s0, s1⟩ := hSw; go_simp; all_goals (with_reducible rfl))
                simp only [Act.put, List.setIfInBounds_toArray, List.set_cons_zero, List.set_cons_succ]
                refine take_drop (i := 33) (v := ?v33_12) rfl (by kernel_rfl) (by kernel_rfl) (by kernel_rfl) (fun _ _ _ h => h) (Or.inl ⟨by rfl, ?h33_12⟩) hS2 ?r33_12
                case h33_12 => (intro wS hSw; obtain ⟨s0, s1⟩ := hSw; go_simp; all_goals (with_reducible rfl))
                simp only [Act.put, List.setIfInBounds_toArray, List.set_cons_zero, List.set_cons_succ]
                refine take_drop (i := 34) (v := ?v34_12) rfl (by kernel_rfl) (by kernel_rfl) (by kernel_rfl) (fun _ _ _ h => h) (Or.inl ⟨by rfl, ?h34_12⟩) hS2 ?r34_12
                case h34_12 => (intro wS hSw; obtain ⟨s0, s1⟩ := hSw; go_simp; all_goals (with_reducible rfl))
                simp only [Act.put, List.setIfInBounds_toArray, List.set_cons_zero, List.set_cons_succ]
                refine take_drop (i := 35) (v := ?v35_12) rfl (by kernel_rfl) (by kernel_rfl) (by kernel_rfl) (fun _ _ _ h => h) (Or.inl ⟨by rfl, ?h35_12⟩) hS2 ?r35_12
                case h35_12 => (intro wS hSw; obtain ⟨s0, s1⟩ := hSw; go_simp; all_goals (with_reducible rfl))
                simp only [Act.put, List.setIfInBounds_toArray, List.set_cons_zero, List.set_cons_succ]
                refine take_drop (i := 36) (v := ?v36_12) rfl (by kernel_rfl) (by kernel_rfl) (by kernel_rfl) (fun _ _ _ h => h) (Or.inl ⟨by rfl, ?h36_12⟩) hS2 ?r36_12
                case h36_12 => (intro wS hSw; obtain ⟨s0, s1⟩ := hSw; go_simp; all_goals (with_reducible rfl))
                simp only [Act.put, List.setIfInBounds_toArray, List.set_cons_zero, List.set_cons_succ]
                refine take_drop (i := 37) (v := ?v37_12) rfl (by kernel_rfl) (by kernel_rfl) (by kernel_rfl) (fun _ _ _ h => h) (Or.inl ⟨by rfl, ?h37_12⟩) hS2 ?r37_12
                case h37_12 => (intro wS hSw; obtain ⟨s0, s1⟩ := hSw; go_simp; all_goals (with_reducible rfl))
                simp only [Act.put, List.setIfInBounds_toArray, List.set_cons_zero, List.set_cons_succ]
                refine take_drop (i := 38) (v := ?v38_12) rfl (by kernel_rfl) (by kernel_rfl) (by kernel_rfl) (fun _ _ _ h => h) (Or.inl ⟨by rfl, ?h38_12⟩) hS2 ?r38_12
                case h38_12 => (intro wS hSw; obtain ⟨s0, s1⟩ := hSw; go_simp; all_goals (with_reducible rfl))
                simp only [Act.put, List.setIfInBounds_toArray, List.set_cons_zero, List.set_cons_succ]
                refine take_drop (i := 39) (v := ?v39_12) rfl (by kernel_rfl) (by kernel_rfl) (by kernel_rfl) (fun _ _ _ h => h) (Or.inl ⟨by rfl, ?h39_12⟩) hS2 ?r39_12
                case h39_12 => (intro wS hSw; obtain ⟨s0, s1⟩ := hSw; go_simp; all_goals (with_reducible rfl))
                simp only [Act.put, List.setIfInBounds_toArray, List.set_cons_zero, List.set_cons_succ]
                refine take_drop (i := 40) (v := ?v40_12) rfl (by kernel_rfl) (by kernel_rfl) (by kernel_rfl) (fun _ _ _ h => h) (Or.inl ⟨by rfl, ?h40_12⟩) hS2 ?r40_12
                case h40_12 => (intro wS hSw; obtain ⟨s0, s1⟩ := hSw; go_simp; all_goals (with_reducible rfl))
                simp only [Act.put, List.setIfInBounds_toArray, List.set_cons_zero, List.set_cons_succ]
                refine take_drop (i := 41) (v := ?v41_12) rfl (by kernel_rfl) (by kernel_rfl) (by kernel_rfl) (fun _ _ _ h => h) (Or.inl ⟨by rfl, ?h41_12⟩) hS2 ?r41_12
                case h41_12 => (intro wS hSw; obtain ⟨s0, s1⟩ := hSw; go_simp; all_goals (with_reducible rfl))
                simp only [Act.put, List.setIfInBounds_toArray, List.set_cons_zero, List.set_cons_succ]
                refine wpAnyH_done (by kernel_rfl) ?_ _

                go_wp2_with fail
                go_roundw
                case rel => exact ⟨j + 1, -1, X8, Y8, by simp, by omega, by first | rfl | simp | (congr 1; omega), by omega, HC10.out, HL10.out, HY8.out, HX8.out, HS10.out, HF10.out⟩
                case measure => simp [intOf]; omega
          have n1 : (kd == 1) = false := by simpa using hk1
          have n2 : (kd == 2) = false := by simpa using hk2
          have n3 : (kd == 3) = false := by simpa using hk3
          have n4 : (kd == 4) = false := by simpa using hk4
          have n5 : (kd == 5) = false := by simpa using hk5
          clear hk1 hk2 hk3 hk4 hk5
          rcases htb with rfl | ⟨ht0, ht1⟩
          · have hV : V = false := by rw [← HV.out]; decide
            subst hV
            have g1 : decide ((m : Int) ≤ -1) = false := by first | (rw [decide_eq_true_eq]; omega) | (rw [decide_eq_false_iff_not]; omega)
            have HC8 := HC7
            have HL8 := HL7
            have HF8 := HF7
            have HY8 := HYr
            have HX8 := HXr
            have HS8 : Hid (w6.heap.size ≤ w7.heap.size) := Lib.hid (Nat.le_trans HSZ.out HG7.out.size)
            have HIT := HK.out.item HC8.out
            rw [show itemI L (-1) = (0, 0) by unfold itemI; rw [if_neg (by omega)]] at HIT
            have HIT := Lib.hid HIT
            go_wp2_with fail
            refine HIT.out.mono ?_
            rintro e w9 ⟨rfl, f9⟩
            have HC9 := HK.out.keep HC8.out f9 (fun _ _ h => h)
            have HL9 := HL8.out.keep f9 (fun _ _ h => h)
            have HF9 := HF8.out.trans f9
            have fB := (Fr.refl No w9).alloc (.cells #[.int .i64 0, .int .i64 0] 49)
            have x0 : (w9.alloc (.cells #[.int .i64 0, .int .i64 0] 49)).drew.cell? ⟨w9.heap.size, 0, none⟩ = some (.int .i64 0) := (At.new w9 49 #[.int .i64 0, .int .i64 0]).cell 0
            have x1 : (w9.alloc (.cells #[.int .i64 0, .int .i64 0] 49)).drew.cell? ⟨w9.heap.size, 1, none⟩ = some (.int .i64 0) := (At.new w9 49 #[.int .i64 0, .int .i64 0]).cell 1
            have HCD := Lib.hid (HK.out.keep HC9 fB.drew (fun _ _ h => h))
            have HLD := Lib.hid (HL9.keep fB.drew (fun _ _ h => h))
            have HFD := Lib.hid (HF9.trans fB.drew)
            have HSD := Lib.hid (Nat.le_trans HS8.out (f9.trans fB.drew).size)
            have HV9 := HK.out.valid HCD.out
            rw [show decide ((0 : Int) ≤ -1) = false by first | (rw [decide_eq_true_eq]; omega) | (rw [decide_eq_false_iff_not]; omega)] at HV9
            have HV9 := Lib.hid HV9
            have r3 : decide ((0 : Int) ≤ -1) = false := by first | (rw [decide_eq_true_eq]; omega) | (rw [decide_eq_false_iff_not]; omega)
            clear f9 HC9 HL9 HF9 fB
            try clear e3
            try clear e0 e1
            go_wp2_with fail
            refine wp_region_held_drew (S := fun w' => w'.cell? ⟨w9.heap.size, 0, none⟩ = some (.int .i64 0) ∧ w'.cell? ⟨w9.heap.size, 1, none⟩ = some (.int .i64 0)) (by kernel_rfl) ⟨x0, x1⟩ (fun hHeld => ?_)
            refine take_drop (i := 0) (v := ?v0_13) rfl (by kernel_rfl) (by kernel_rfl) (by kernel_rfl) (fun _ _ _ h => h) (Or.inl ⟨by rfl, ?h0_13⟩) hHeld ?r0_13
            case h0_13 => (intro wS hSw; obtain ⟨s0, s1⟩ := hSw; go_simp; all_goals (with_reducible rfl))
            simp only [Act.put, List.setIfInBounds_toArray, List.set_cons_zero, List.set_cons_succ]
            refine take_drop (i := 1) (v := ?v1_13) rfl (by kernel_rfl) (by kernel_rfl) (by kernel_rfl) (fun _ _ _ h => h) (Or.inl ⟨by rfl, ?h1_13⟩) hHeld ?r1_13
            case h1_13 => (intro wS hSw; obtain ⟨s0, s1⟩ := hSw; go_simp; all_goals (with_reducible rfl))
            simp only [Act.put, List.setIfInBounds_toArray, List.set_cons_zero, List.set_cons_succ]
            refine take_drop (i := 2) (v := ?v2_13) rfl (by kernel_rfl) (by kernel_rfl) (by kernel_rfl) (fun _ _ _ h => h) (Or.inl ⟨by rfl, ?h2_13⟩) hHeld ?r2_13
            case h2_13 => (intro wS hSw; obtain ⟨s0, s1⟩ := hSw; go_simp; all_goals (with_reducible rfl))
            simp only [Act.put, List.setIfInBounds_toArray, List.set_cons_zero, List.set_cons_succ]
            refine take_drop (i := 3) (v := ?v3_13) rfl (by kernel_rfl) (by kernel_rfl) (by kernel_rfl) (fun _ _ _ h => h) (Or.inl ⟨by rfl, ?h3_13⟩) hHeld ?r3_13
            case h3_13 => (intro wS hSw; obtain ⟨s0, s1⟩ := hSw; go_simp; all_goals (with_reducible rfl))
            simp only [Act.put, List.setIfInBounds_toArray, List.set_cons_zero, List.set_cons_succ]
            refine take_drop (i := 4) (v := ?v4_13) rfl (by kernel_rfl) (by kernel_rfl) (by kernel_rfl) (fun _ _ _ h => h) (Or.inl ⟨by rfl, ?h4_13⟩) hHeld ?r4_13
            case h4_13 => (intro wS hSw; obtain ⟨s0, s1⟩ := hSw; go_simp; all_goals (with_reducible rfl))
            simp only [Act.put, List.setIfInBounds_toArray, List.set_cons_zero, List.set_cons_succ]
            refine take_drop (i := 5) (v := ?v5_13) rfl (by kernel_rfl) (by kernel_rfl) (by kernel_rfl) (fun _ _ _ h => h) (Or.inl ⟨by rfl, ?h5_13⟩) hHeld ?r5_13
            case h5_13 => (intro wS hSw; obtain ⟨s0, s1⟩ := hSw; go_simp; all_goals (with_reducible rfl))
            simp only [Act.put, List.setIfInBounds_toArray, List.set_cons_zero, List.set_cons_succ]
            refine take_drop (i := 7) (v := ?v7_13) rfl (by kernel_rfl) (by kernel_rfl) (by kernel_rfl) (fun _ _ _ h => h) (Or.inl ⟨by rfl, ?h7_13⟩) hHeld ?r7_13
            case h7_13 => (intro wS hSw; obtain ⟨s0, s1⟩ := hSw; go_simp; all_goals (with_reducible rfl))
            simp only [Act.put, List.setIfInBounds_toArray, List.set_cons_zero, List.set_cons_succ]
            refine wpAnyH_ready (rs := [6]) (by kernel_rfl) (by simp) ?_
            refine do_drop (i := 6) rfl (fun K hK => ?_) AllReadyH.nil
            go_simp
            refine HV9.out.mono ?_
            rintro e w10 ⟨rfl, f10⟩
            have y0 := f10.cell x0 (fun h => h)
            have y1 := f10.cell x1 (fun h => h)
            have HC10 := Lib.hid (HK.out.keep HCD.out f10 (fun _ _ h => h))
            have HL10 := Lib.hid (HLD.out.keep f10 (fun _ _ h => h))
            have HF10 := Lib.hid (HFD.out.trans f10)
            have HS10 := Lib.hid (Nat.le_trans HSD.out f10.size)
            clear f10 hHeld
            refine hK.out _ _ ⟨y0, y1⟩ ?_
            clear hK K
            try simp only [Act.put, List.setIfInBounds_toArray, List.set_cons_zero, List.set_cons_succ]
            have hS2 := And.intro y0 y1
            refine take_drop (i := 8) (v := ?v8_13) rfl (by kernel_rfl) (by kernel_rfl) (by kernel_rfl) (fun _ _ _ h => h) (Or.inl ⟨by rfl, ?h8_13⟩) hS2 ?r8_13
            case h8_13 => (intro wS hSw; obtain ⟨s0, s1⟩ := hSw; go_simp; all_goals (with_reducible rfl))
            simp only [Act.put, List.setIfInBounds_toArray, List.set_cons_zero, List.set_cons_succ]
            refine take_drop (i := 9) (v := ?v9_13) rfl (by kernel_rfl) (by kernel_rfl) (by kernel_rfl) (fun _ _ _ h => h) (Or.inl ⟨by rfl, ?h9_13⟩) hS2 ?r9_13
            case h9_13 => (intro wS hSw; obtain ⟨s0, s1⟩ := hSw; go_simp; all_goals (with_reducible rfl))
            simp only [Act.put, List.setIfInBounds_toArray, List.set_cons_zero, List.set_cons_succ]
            refine take_drop (i := 10) (v := ?v10_13) rfl (by kernel_rfl) (by kernel_rfl) (by kernel_rfl) (fun _ _ _ h => h) (Or.inl ⟨by rfl, ?h10_13⟩) hS2 ?r10_13
            case h10_13 => (intro wS hSw; obtain ⟨s0, s1⟩ := hSw; go_simp; all_goals (with_reducible rfl))
            simp only [Act.put, List.setIfInBounds_toArray, List.set_cons_zero, List.set_cons_succ]
            refine take_drop (i := 11) (v := ?v11_13) rfl (by kernel_rfl) (by kernel_rfl) (by kernel_rfl) (fun _ _ _ h => h) (Or.inl ⟨by rfl, ?h11_13⟩) hS2 ?r11_13
            case h11_13 => (intro wS hSw; obtain ⟨s0, s1⟩ := hSw; go_simp; all_goals (with_reducible rfl))
            simp only [Act.put, List.setIfInBounds_toArray, List.set_cons_zero, List.set_cons_succ]
            refine take_drop (i := 12) (v := ?v12_13) rfl (by kernel_rfl) (by kernel_rfl) (by kernel_rfl) (fun _ _ _ h => h) (Or.inl ⟨by rfl, ?h12_13⟩) hS2 ?r12_13
            case h12_13 => (intro wS hSw; obtain ⟨s0, s1⟩ := hSw; go_simp; all_goals (with_reducible rfl))
            simp only [Act.put, List.setIfInBounds_toArray, List.set_cons_zero, List.set_cons_succ]
            refine take_drop (i := 13) (v := undef) rfl (by kernel_rfl) (by kernel_rfl) (by kernel_rfl) (fun _ _ _ h => h) (Or.inr ⟨by rfl, rfl⟩) hS2 ?_
            simp only [Act.put, List.setIfInBounds_toArray, List.set_cons_zero, List.set_cons_succ]
            refine take_drop (i := 14) (v := undef) rfl (by kernel_rfl) (by kernel_rfl) (by kernel_rfl) (fun _ _ _ h => h) (Or.inr ⟨by rfl, rfl⟩) hS2 ?_
            simp only [Act.put, List.setIfInBounds_toArray, List.set_cons_zero, List.set_cons_succ]
            refine take_drop (i := 15) (v := undef) rfl (by kernel_rfl) (by kernel_rfl) (by kernel_rfl) (fun _ _ _ h => h) (Or.inr ⟨by rfl, rfl⟩) hS2 ?_
            simp only [Act.put, List.setIfInBounds_toArray, List.set_cons_zero, List.set_cons_succ]
            refine take_drop (i := 16) (v := undef) rfl (by kernel_rfl) (by kernel_rfl) (by kernel_rfl) (fun _ _ _ h => h) (Or.inr ⟨by rfl, rfl⟩) hS2 ?_
            simp only [Act.put, List.setIfInBounds_toArray, List.set_cons_zero, List.set_cons_succ]
            refine take_drop (i := 17) (v := undef) rfl (by kernel_rfl) (by kernel_rfl) (by kernel_rfl) (fun _ _ _ h => h) (Or.inr ⟨by rfl, rfl⟩) hS2 ?_
            simp only [Act.put, List.setIfInBounds_toArray, List.set_cons_zero, List.set_cons_succ]
            refine take_drop (i := 18) (v := undef) rfl (by kernel_rfl) (by kernel_rfl) (by kernel_rfl) (fun _ _ _ h => h) (Or.inr ⟨by rfl, rfl⟩) hS2 ?_
            simp only [Act.put, List.setIfInBounds_toArray, List.set_cons_zero, List.set_cons_succ]
            refine take_drop (i := 19) (v := undef) rfl (by kernel_rfl) (by kernel_rfl) (by kernel_rfl) (fun _ _ _ h => h) (Or.inr ⟨by rfl, rfl⟩) hS2 ?_
            simp only [Act.put, List.setIfInBounds_toArray, List.set_cons_zero, List.set_cons_succ]
            refine take_drop (i := 20) (v := undef) rfl (by kernel_rfl) (by kernel_rfl) (by kernel_rfl) (fun _ _ _ h => h) (Or.inr ⟨by rfl, rfl⟩) hS2 ?_
            simp only [Act.put, List.setIfInBounds_toArray, List.set_cons_zero, List.set_cons_succ]
            refine take_drop (i := 21) (v := undef) rfl (by kernel_rfl) (by kernel_rfl) (by kernel_rfl) (fun _ _ _ h => h) (Or.inr ⟨by rfl, rfl⟩) hS2 ?_
            simp only [Act.put, List.setIfInBounds_toArray, List.set_cons_zero, List.set_cons_succ]
            refine take_drop (i := 22) (v := undef) rfl (by kernel_rfl) (by kernel_rfl) (by kernel_rfl) (fun _ _ _ h => h) (Or.inr ⟨by rfl, rfl⟩) hS2 ?_
            simp only [Act.put, List.setIfInBounds_toArray, List.set_cons_zero, List.set_cons_succ]
            refine take_drop (i := 23) (v := undef) rfl (by kernel_rfl) (by kernel_rfl) (by kernel_rfl) (fun _ _ _ h => h) (Or.inr ⟨by rfl, rfl⟩) hS2 ?_
            simp only [Act.put, List.setIfInBounds_toArray, List.set_cons_zero, List.set_cons_succ]
            refine take_drop (i := 24) (v := undef) rfl (by kernel_rfl) (by kernel_rfl) (by kernel_rfl) (fun _ _ _ h => h) (Or.inr ⟨by rfl, rfl⟩) hS2 ?_
            simp only [Act.put, List.setIfInBounds_toArray, List.set_cons_zero, List.set_cons_succ]
            refine take_drop (i := 25) (v := undef) rfl (by kernel_rfl) (by kernel_rfl) (by kernel_rfl) (fun _ _ _ h => h) (Or.inr ⟨by rfl, rfl⟩) hS2 ?_
            simp only [Act.put, List.setIfInBounds_toArray, List.set_cons_zero, List.set_cons_succ]
            refine take_drop (i := 26) (v := undef) rfl (by kernel_rfl) (by kernel_rfl) (by kernel_rfl) (fun _ _ _ h => h) (Or.inr ⟨by rfl, rfl⟩) hS2 ?_
            simp only [Act.put, List.setIfInBounds_toArray, List.set_cons_zero, List.set_cons_succ]
            refine take_drop (i := 27) (v := undef) rfl (by kernel_rfl) (by kernel_rfl) (by kernel_rfl) (fun _ _ _ h => h) (Or.inr ⟨by rfl, rfl⟩) hS2 ?_
            simp only [Act.put, List.setIfInBounds_toArray, List.set_cons_zero, List.set_cons_succ]
            refine take_drop (i := 28) (v := undef) rfl (by kernel_rfl) (by kernel_rfl) (by kernel_rfl) (fun _ _ _ h => h) (Or.inr ⟨by rfl, rfl⟩) hS2 ?_
            simp only [Act.put, List.setIfInBounds_toArray, List.set_cons_zero, List.set_cons_succ]
            refine take_drop (i := 29) (v := undef) rfl (by kernel_rfl) (by kernel_rfl) (by kernel_rfl) (fun _ _ _ h => h) (Or.inr ⟨by rfl, rfl⟩) hS2 ?_
            simp only [Act.put, List.setIfInBounds_toArray, List.set_cons_zero, List.set_cons_succ]
            refine take_drop (i := 30) (v := undef) rfl (by kernel_rfl) (by kernel_rfl) (by kernel_rfl) (fun _ _ _ h => h) (Or.inr ⟨by rfl, rfl⟩) hS2 ?_
            simp only [Act.put, List.setIfInBounds_toArray, List.set_cons_zero, List.set_cons_succ]
            refine take_drop (i := 31) (v := ?v31_13) rfl (by kernel_rfl) (by kernel_rfl) (by kernel_rfl) (fun _ _ _ h => h) (Or.inl ⟨by rfl, ?h31_13⟩) hS2 ?r31_13
            case h31_13 => (intro wS hSw; obtain ⟨s0, s1⟩ := hSw; go_simp; all_goals (with_reducible rfl))
            simp only [Act.put, List.setIfInBounds_toArray, List.set_cons_zero, List.set_cons_succ]
            refine take_drop (i := 32) (v := ?v32_13) rfl (by kernel_rfl) (by kernel_rfl) (by kernel_rfl) (fun _ _ _ h => h) (Or.inl ⟨by rfl, ?h32_13⟩) hS2 ?r32_13
            case h32_13 => (intro wS hSw; obtain ⟨s0, s1⟩ := hSw; go_simp; all_goals (with_reducible rfl))
            simp only [Act.put, List.setIfInBounds_toArray, List.set_cons_zero, List.set_cons_succ]
            refine take_drop (i := 33) (v := ?v33_13) rfl (by kernel_rfl) (by kernel_rfl) (by kernel_rfl) (fun _ _ _ h => h) (Or.inl ⟨by rfl, ?h33_13⟩) hS2 ?r33_13
            case h33_13 => (intro wS hSw; obtain ⟨s0, s1⟩ := hSw; go_simp; all_goals (with_reducible rfl))
            simp only [Act.put, List.setIfInBounds_toArray, List.set_cons_zero, List.set_cons_succ]
            refine take_drop (i := 34) (v := ?v34_13) rfl (by kernel_rfl) (by kernel_rfl) (by kernel_rfl) (fun _ _ _ h => h) (Or.inl ⟨by rfl, ?h34_13⟩) hS2 ?r34_13
            case h34_13 => (intro wS hSw; obtain ⟨s0, s1⟩ := hSw; go_simp; all_goals (with_reducible rfl))
            simp only [Act.put, List.setIfInBounds_toArray, List.set_cons_zero, List.set_cons_succ]
            refine take_drop (i := 35) (v := ?v35_13) rfl (by kernel_rfl) (by kernel_rfl) (by kernel_rfl) (fun _ _ _ h => h) (Or.inl ⟨by rfl, ?h35_13⟩) hS2 ?r35_13
            case h35_13 => (intro wS hSw; obtain ⟨s0, s1⟩ := hSw; go_simp; all_goals (with_reducible rfl))
            simp only [Act.put, List.setIfInBounds_toArray, List.set_cons_zero, List.set_cons_succ]
            refine take_drop (i := 36) (v := ?v36_13) rfl (by kernel_rfl) (by kernel_rfl) (by kernel_rfl) (fun _ _ _ h => h) (Or.inl ⟨by rfl, ?h36_13⟩) hS2 ?r36_13
            case h36_13 => (intro wS hSw; obtain ⟨s0, s1⟩ := hSw; go_simp; all_goals (with_reducible rfl))
            simp only [Act.put, List.setIfInBounds_toArray, List.set_cons_zero, List.set_cons_succ]
            refine take_drop (i := 37) (v := ?v37_13) rfl (by kernel_rfl) (by kernel_rfl) (by kernel_rfl) (fun _ _ _ h => h) (Or.inl ⟨by rfl, ?h37_13⟩) hS2 ?r37_13
            case h37_13 => (intro wS hSw; obtain ⟨s0, s1⟩ := hSw; go_simp; all_goals (with_reducible rfl))
            simp only [Act.put, List.setIfInBounds_toArray, List.set_cons_zero, List.set_cons_succ]
            refine take_drop (i := 38) (v := ?v38_13) rfl (by kernel_rfl) (by kernel_rfl) (by kernel_rfl) (fun _ _ _ h => h) (Or.inl ⟨by rfl, ?h38_13⟩) hS2 ?r38_13
            case h38_13 => (intro wS hSw; obtain ⟨s0, s1⟩ := hSw; go_simp; all_goals (with_reducible rfl))
            simp only [Act.put, List.setIfInBounds_toArray, List.set_cons_zero, List.set_cons_succ]
            refine take_drop (i := 39) (v := ?v39_13) rfl (by kernel_rfl) (by kernel_rfl) (by kernel_rfl) (fun _ _ _ h => h) (Or.inl ⟨by rfl, ?h39_13⟩) hS2 ?r39_13
            case h39_13 => (intro wS hSw; obtain ⟨s0, s1⟩ := hSw; go_simp; all_goals (with_reducible rfl))
            simp only [Act.put, List.setIfInBounds_toArray, List.set_cons_zero, List.set_cons_succ]
            refine take_drop (i := 40) (v := ?v40_13) rfl (by kernel_rfl) (by kernel_rfl) (by kernel_rfl) (fun _ _ _ h => h) (Or.inl ⟨by rfl, ?h40_13⟩) hS2 ?r40_13
            case h40_13 => (intro wS hSw; obtain ⟨s0, s1⟩ := hSw; go_simp; all_goals (with_reducible rfl))
            simp only [Act.put, List.setIfInBounds_toArray, List.set_cons_zero, List.set_cons_succ]
            refine take_drop (i := 41) (v := ?v41_13) rfl (by kernel_rfl) (by kernel_rfl) (by kernel_rfl) (fun _ _ _ h => h) (Or.inl ⟨by rfl, ?h41_13⟩) hS2 ?r41_13
            case h41_13 => (intro wS hSw; obtain ⟨s0, s1⟩ := hSw; go_simp; all_goals (with_reducible rfl))
            simp only [Act.put, List.setIfInBounds_toArray, List.set_cons_zero, List.set_cons_succ]
            refine wpAnyH_done (by kernel_rfl) ?_ _

            go_wp2_with fail
            go_roundw
            case rel => exact ⟨j + 1, -1, X, Y, by simp, by omega, by first | rfl | simp | (congr 1; omega), by omega, HC10.out, HL10.out, HY8.out, HX8.out, HS10.out, HF10.out⟩
            case measure => simp [intOf]; omega
          · obtain ⟨tn, rfl⟩ := Int.eq_ofNat_of_zero_le ht0
            have hn : tn < m := by omega
            have hV : V = true := by rw [← HV.out, decide_eq_true_eq]; omega
            subst hV
            have g1 : decide ((m : Int) ≤ (tn : Int)) = false := by first | (rw [decide_eq_true_eq]; omega) | (rw [decide_eq_false_iff_not]; omega)
            have HC8 := HC7
            have HL8 := HL7
            have HF8 := HF7
            have HY8 := HYr
            have HX8 := HXr
            have HS8 : Hid (w6.heap.size ≤ w7.heap.size) := Lib.hid (Nat.le_trans HSZ.out HG7.out.size)
            have HIT := HK.out.item HC8.out
            rw [show itemI L ((tn : Int)) = L.getD tn p20 by unfold itemI; rw [if_pos (by omega)]; congr 1] at HIT
            have HCEL : Hid (∀ w', Fr No w7 w' → ∃ g p, oa = some ⟨g, p, none⟩ ∧ w'.cell? ⟨g, p + tn * 2, none⟩ = some (.int .i64 (L.getD tn p20).1) ∧ w'.cell? ⟨g, p + tn * 2 + 1, none⟩ = some (.int .i64 (L.getD tn p20).2)) := Lib.hid fun w' f => by
              obtain ⟨g, p, _, hg, hc⟩ := HL8.out (by rw [HML.out]; omega)
              exact ⟨g, p, hg, f.cell (hc tn (by rw [HML.out]; exact hn)).1 (fun h => h), f.cell (hc tn (by rw [HML.out]; exact hn)).2 (fun h => h)⟩
            generalize (L.getD tn p20).1 = xk at *
            generalize (L.getD tn p20).2 = xv at *
            have HIT := Lib.hid HIT
            go_wp2_with fail
            refine HIT.out.mono ?_
            rintro e w9 ⟨rfl, f9⟩
            have HC9 := HK.out.keep HC8.out f9 (fun _ _ h => h)
            have HL9 := HL8.out.keep f9 (fun _ _ h => h)
            have HF9 := HF8.out.trans f9
            have fB := (Fr.refl No w9).alloc (.cells #[.int .i64 xk, .int .i64 xv] 49)
            have x0 : (w9.alloc (.cells #[.int .i64 xk, .int .i64 xv] 49)).drew.cell? ⟨w9.heap.size, 0, none⟩ = some (.int .i64 xk) := (At.new w9 49 #[.int .i64 xk, .int .i64 xv]).cell 0
            have x1 : (w9.alloc (.cells #[.int .i64 xk, .int .i64 xv] 49)).drew.cell? ⟨w9.heap.size, 1, none⟩ = some (.int .i64 xv) := (At.new w9 49 #[.int .i64 xk, .int .i64 xv]).cell 1
            have HCD := Lib.hid (HK.out.keep HC9 fB.drew (fun _ _ h => h))
            have HLD := Lib.hid (HL9.keep fB.drew (fun _ _ h => h))
            have HFD := Lib.hid (HF9.trans fB.drew)
            have HSD := Lib.hid (Nat.le_trans HS8.out (f9.trans fB.drew).size)
            have HV9 := HK.out.valid HCD.out
            rw [show decide ((0 : Int) ≤ (tn : Int)) = true by first | (rw [decide_eq_true_eq]; omega) | (rw [decide_eq_false_iff_not]; omega)] at HV9
            have HV9 := Lib.hid HV9
            have bn0 : (0 : Int) ≤ (tn : Int) := by omega
            have bn1 : (tn : Int) < (m : Int) := by omega
            obtain ⟨lg, lp, rfl, l0, l1⟩ := HCEL.out _ (f9.trans fB.drew)
            have r1 : (xk == xk) = true := by simp
            have r2 : (xv == xv) = true := by simp
            have r3 : decide ((0 : Int) ≤ (tn : Int)) = true := by first | (rw [decide_eq_true_eq]; omega) | (rw [decide_eq_false_iff_not]; omega)
            clear f9 HC9 HL9 HF9 fB
            try clear e3
            try clear e0 e1
            go_wp2_with fail
            refine wp_region_held_drew (S := fun w' => w'.cell? ⟨w9.heap.size, 0, none⟩ = some (.int .i64 xk) ∧ w'.cell? ⟨w9.heap.size, 1, none⟩ = some (.int .i64 xv) ∧ w'.cell? ⟨lg, lp + tn * 2, none⟩ = some (.int .i64 xk) ∧ w'.cell? ⟨lg, lp + tn * 2 + 1, none⟩ = some (.int .i64 xv)) (by kernel_rfl) ⟨x0, x1, l0, l1⟩ (fun hHeld => ?_)
            refine take_drop (i := 0) (v := ?v0_14) rfl (by kernel_rfl) (by kernel_rfl) (by kernel_rfl) (fun _ _ _ h => h) (Or.inl ⟨by rfl, ?h0_14⟩) hHeld ?r0_14
            case h0_14 => (intro wS hSw; obtain ⟨s0, s1, s2, s3⟩ := hSw; go_simp; all_goals (with_reducible rfl))
            simp only [Act.put, List.setIfInBounds_toArray, List.set_cons_zero, List.set_cons_succ]
            refine take_drop (i := 1) (v := ?v1_14) rfl (by kernel_rfl) (by kernel_rfl) (by kernel_rfl) (fun _ _ _ h => h) (Or.inl ⟨by rfl, ?h1_14⟩) hHeld ?r1_14
            case h1_14 => (intro wS hSw; obtain ⟨s0, s1, s2, s3⟩ := hSw; go_simp; all_goals (with_reducible rfl))
            simp only [Act.put, List.setIfInBounds_toArray, List.set_cons_zero, List.set_cons_succ]
            refine take_drop (i := 2) (v := ?v2_14) rfl (by kernel_rfl) (by kernel_rfl) (by kernel_rfl) (fun _ _ _ h => h) (Or.inl ⟨by rfl, ?h2_14⟩) hHeld ?r2_14
            case h2_14 => (intro wS hSw; obtain ⟨s0, s1, s2, s3⟩ := hSw; go_simp; all_goals (with_reducible rfl))
            simp only [Act.put, List.setIfInBounds_toArray, List.set_cons_zero, List.set_cons_succ]
            refine take_drop (i := 3) (v := ?v3_14) rfl (by kernel_rfl) (by kernel_rfl) (by kernel_rfl) (fun _ _ _ h => h) (Or.inl ⟨by rfl, ?h3_14⟩) hHeld ?r3_14
            case h3_14 => (intro wS hSw; obtain ⟨s0, s1, s2, s3⟩ := hSw; go_simp; all_goals (with_reducible rfl))
            simp only [Act.put, List.setIfInBounds_toArray, List.set_cons_zero, List.set_cons_succ]
            refine take_drop (i := 4) (v := ?v4_14) rfl (by kernel_rfl) (by kernel_rfl) (by kernel_rfl) (fun _ _ _ h => h) (Or.inl ⟨by rfl, ?h4_14⟩) hHeld ?r4_14
            case h4_14 => (intro wS hSw; obtain ⟨s0, s1, s2, s3⟩ := hSw; go_simp; all_goals (with_reducible rfl))
            simp only [Act.put, List.setIfInBounds_toArray, List.set_cons_zero, List.set_cons_succ]
            refine take_drop (i := 5) (v := ?v5_14) rfl (by kernel_rfl) (by kernel_rfl) (by kernel_rfl) (fun _ _ _ h => h) (Or.inl ⟨by rfl, ?h5_14⟩) hHeld ?r5_14
            case h5_14 => (intro wS hSw; obtain ⟨s0, s1, s2, s3⟩ := hSw; go_simp; all_goals (with_reducible rfl))
            simp only [Act.put, List.setIfInBounds_toArray, List.set_cons_zero, List.set_cons_succ]
            refine take_drop (i := 7) (v := ?v7_14) rfl (by kernel_rfl) (by kernel_rfl) (by kernel_rfl) (fun _ _ _ h => h) (Or.inl ⟨by rfl, ?h7_14⟩) hHeld ?r7_14
            case h7_14 => (intro wS hSw; obtain ⟨s0, s1, s2, s3⟩ := hSw; go_simp; all_goals (with_reducible rfl))
            simp only [Act.put, List.setIfInBounds_toArray, List.set_cons_zero, List.set_cons_succ]
            refine wpAnyH_ready (rs := [6]) (by kernel_rfl) (by simp) ?_
            refine do_drop (i := 6) rfl (fun K hK => ?_) AllReadyH.nil
            go_simp
            refine HV9.out.mono ?_
            rintro e w10 ⟨rfl, f10⟩
            have y0 := f10.cell x0 (fun h => h)
            have y1 := f10.cell x1 (fun h => h)
            have y2 := f10.cell l0 (fun h => h)
            have y3 := f10.cell l1 (fun h => h)
            have HC10 := Lib.hid (HK.out.keep HCD.out f10 (fun _ _ h => h))
            have HL10 := Lib.hid (HLD.out.keep f10 (fun _ _ h => h))
            have HF10 := Lib.hid (HFD.out.trans f10)
            have HS10 := Lib.hid (Nat.le_trans HSD.out f10.size)
            clear f10 hHeld
            refine hK.out _ _ ⟨y0, y1, y2, y3⟩ ?_
            clear hK K
            try simp only [Act.put, List.setIfInBounds_toArray, List.set_cons_zero, List.set_cons_succ]
            have hS2 := And.intro y0 (And.intro y1 (And.intro y2 y3))
            refine take_drop (i := 8) (v := ?v8_14) rfl (by kernel_rfl) (by kernel_rfl) (by kernel_rfl) (fun _ _ _ h => h) (Or.inl ⟨by rfl, ?h8_14⟩) hS2 ?r8_14
            case h8_14 => (intro wS hSw; obtain ⟨s0, s1, s2, s3⟩ := hSw; go_simp; all_goals (with_reducible rfl))
            simp only [Act.put, List.setIfInBounds_toArray, List.set_cons_zero, List.set_cons_succ]
            refine take_drop (i := 9) (v := ?v9_14) rfl (by kernel_rfl) (by kernel_rfl) (by kernel_rfl) (fun _ _ _ h => h) (Or.inl ⟨by rfl, ?h9_14⟩) hS2 ?r9_14
            case h9_14 => (intro wS hSw; obtain ⟨s0, s1, s2, s3⟩ := hSw; go_simp; all_goals (with_reducible rfl))
            simp only [Act.put, List.setIfInBounds_toArray, List.set_cons_zero, List.set_cons_succ]
            refine take_drop (i := 10) (v := ?v10_14) rfl (by kernel_rfl) (by kernel_rfl) (by kernel_rfl) (fun _ _ _ h => h) (Or.inl ⟨by rfl, ?h10_14⟩) hS2 ?r10_14
            case h10_14 => (intro wS hSw; obtain ⟨s0, s1, s2, s3⟩ := hSw; go_simp; all_goals (with_reducible rfl))
            simp only [Act.put, List.setIfInBounds_toArray, List.set_cons_zero, List.set_cons_succ]
            refine take_drop (i := 11) (v := ?v11_14) rfl (by kernel_rfl) (by kernel_rfl) (by kernel_rfl) (fun _ _ _ h => h) (Or.inl ⟨by rfl, ?h11_14⟩) hS2 ?r11_14
            case h11_14 => (intro wS hSw; obtain ⟨s0, s1, s2, s3⟩ := hSw; go_simp; all_goals (with_reducible rfl))
            simp only [Act.put, List.setIfInBounds_toArray, List.set_cons_zero, List.set_cons_succ]
            refine take_drop (i := 12) (v := ?v12_14) rfl (by kernel_rfl) (by kernel_rfl) (by kernel_rfl) (fun _ _ _ h => h) (Or.inl ⟨by rfl, ?h12_14⟩) hS2 ?r12_14
            case h12_14 => (intro wS hSw; obtain ⟨s0, s1, s2, s3⟩ := hSw; go_simp; all_goals (with_reducible rfl))
            simp only [Act.put, List.setIfInBounds_toArray, List.set_cons_zero, List.set_cons_succ]
            refine take_drop (i := 13) (v := ?v13_14) rfl (by kernel_rfl) (by kernel_rfl) (by kernel_rfl) (fun _ _ _ h => h) (Or.inl ⟨by rfl, ?h13_14⟩) hS2 ?r13_14
            case h13_14 => (intro wS hSw; obtain ⟨s0, s1, s2, s3⟩ := hSw; go_simp; all_goals (with_reducible rfl))
            simp only [Act.put, List.setIfInBounds_toArray, List.set_cons_zero, List.set_cons_succ]
            refine take_drop (i := 14) (v := ?v14_14) rfl (by kernel_rfl) (by kernel_rfl) (by kernel_rfl) (fun _ _ _ h => h) (Or.inl ⟨by rfl, ?h14_14⟩) hS2 ?r14_14
            case h14_14 => (intro wS hSw; obtain ⟨s0, s1, s2, s3⟩ := hSw; go_simp; all_goals (with_reducible rfl))
            simp only [Act.put, List.setIfInBounds_toArray, List.set_cons_zero, List.set_cons_succ]
            refine take_drop (i := 15) (v := ?v15_14) rfl (by kernel_rfl) (by kernel_rfl) (by kernel_rfl) (fun _ _ _ h => h) (Or.inl ⟨by rfl, ?h15_14⟩) hS2 ?r15_14
            case h15_14 => (intro wS hSw; obtain ⟨s0, s1, s2, s3⟩ := hSw; go_simp; all_goals (with_reducible rfl))
            simp only [Act.put, List.setIfInBounds_toArray, List.set_cons_zero, List.set_cons_succ]
            refine take_drop (i := 16) (v := ?v16_14) rfl (by kernel_rfl) (by kernel_rfl) (by kernel_rfl) (fun _ _ _ h => h) (Or.inl ⟨by rfl, ?h16_14⟩) hS2 ?r16_14
            case h16_14 => (intro wS hSw; obtain ⟨s0, s1, s2, s3⟩ := hSw; go_simp; all_goals (with_reducible rfl))
            simp only [Act.put, List.setIfInBounds_toArray, List.set_cons_zero, List.set_cons_succ]
            refine take_drop (i := 17) (v := ?v17_14) rfl (by kernel_rfl) (by kernel_rfl) (by kernel_rfl) (fun _ _ _ h => h) (Or.inl ⟨by rfl, ?h17_14⟩) hS2 ?r17_14
            case h17_14 => (intro wS hSw; obtain ⟨s0, s1, s2, s3⟩ := hSw; go_simp; all_goals (with_reducible rfl))
            simp only [Act.put, List.setIfInBounds_toArray, List.set_cons_zero, List.set_cons_succ]
            refine take_drop (i := 18) (v := ?v18_14) rfl (by kernel_rfl) (by kernel_rfl) (by kernel_rfl) (fun _ _ _ h => h) (Or.inl ⟨by rfl, ?h18_14⟩) hS2 ?r18_14
            case h18_14 => (intro wS hSw; obtain ⟨s0, s1, s2, s3⟩ := hSw; go_simp; all_goals (with_reducible rfl))
            simp only [Act.put, List.setIfInBounds_toArray, List.set_cons_zero, List.set_cons_succ]
            refine take_drop (i := 19) (v := ?v19_14) rfl (by kernel_rfl) (by kernel_rfl) (by kernel_rfl) (fun _ _ _ h => h) (Or.inl ⟨by rfl, ?h19_14⟩) hS2 ?r19_14
            case h19_14 => (intro wS hSw; obtain ⟨s0, s1, s2, s3⟩ := hSw; go_simp; all_goals (with_reducible rfl))
            simp only [Act.put, List.setIfInBounds_toArray, List.set_cons_zero, List.set_cons_succ]
            refine take_drop (i := 20) (v := ?v20_14) rfl (by kernel_rfl) (by kernel_rfl) (by kernel_rfl) (fun _ _ _ h => h) (Or.inl ⟨by rfl, ?h20_14⟩) hS2 ?r20_14
            case h20_14 => (intro wS hSw; obtain ⟨s0, s1, s2, s3⟩ := hSw; go_simp; all_goals (with_reducible rfl))
            simp only [Act.put, List.setIfInBounds_toArray, List.set_cons_zero, List.set_cons_succ]
            refine take_drop (i := 21) (v := ?v21_14) rfl (by kernel_rfl) (by kernel_rfl) (by kernel_rfl) (fun _ _ _ h => h) (Or.inl ⟨by rfl, ?h21_14⟩) hS2 ?r21_14
            case h21_14 => (intro wS hSw; obtain ⟨s0, s1, s2, s3⟩ := hSw; go_simp; all_goals (with_reducible rfl))
            simp only [Act.put, List.setIfInBounds_toArray, List.set_cons_zero, List.set_cons_succ]
            refine take_drop (i := 22) (v := ?v22_14) rfl (by kernel_rfl) (by kernel_rfl) (by kernel_rfl) (fun _ _ _ h => h) (Or.inl ⟨by rfl, ?h22_14⟩) hS2 ?r22_14
            case h22_14 => (intro wS hSw; obtain ⟨s0, s1, s2, s3⟩ := hSw; go_simp; all_goals (with_reducible rfl))
            simp only [Act.put, List.setIfInBounds_toArray, List.set_cons_zero, List.set_cons_succ]
            refine take_drop (i := 23) (v := ?v23_14) rfl (by kernel_rfl) (by kernel_rfl) (by kernel_rfl) (fun _ _ _ h => h) (Or.inl ⟨by rfl, ?h23_14⟩) hS2 ?r23_14
            case h23_14 => (intro wS hSw; obtain ⟨s0, s1, s2, s3⟩ := hSw; go_simp; all_goals (with_reducible rfl))
            simp only [Act.put, List.setIfInBounds_toArray, List.set_cons_zero, List.set_cons_succ]
            refine take_drop (i := 24) (v := ?v24_14) rfl (by kernel_rfl) (by kernel_rfl) (by kernel_rfl) (fun _ _ _ h => h) (Or.inl ⟨by rfl, ?h24_14⟩) hS2 ?r24_14
            case h24_14 => (intro wS hSw; obtain ⟨s0, s1, s2, s3⟩ := hSw; go_simp; all_goals (with_reducible rfl))
            simp only [Act.put, List.setIfInBounds_toArray, List.set_cons_zero, List.set_cons_succ]
            refine take_drop (i := 25) (v := ?v25_14) rfl (by kernel_rfl) (by kernel_rfl) (by kernel_rfl) (fun _ _ _ h => h) (Or.inl ⟨by rfl, ?h25_14⟩) hS2 ?r25_14
            case h25_14 => (intro wS hSw; obtain ⟨s0, s1, s2, s3⟩ := hSw; go_simp; all_goals (with_reducible rfl))
            simp only [Act.put, List.setIfInBounds_toArray, List.set_cons_zero, List.set_cons_succ]
            refine take_drop (i := 26) (v := ?v26_14) rfl (by kernel_rfl) (by kernel_rfl) (by kernel_rfl) (fun _ _ _ h => h) (Or.inl ⟨by rfl, ?h26_14⟩) hS2 ?r26_14
            case h26_14 => (intro wS hSw; obtain ⟨s0, s1, s2, s3⟩ := hSw; go_simp; all_goals (with_reducible rfl))
            simp only [Act.put, List.setIfInBounds_toArray, List.set_cons_zero, List.set_cons_succ]
            refine take_drop (i := 27) (v := ?v27_14) rfl (by kernel_rfl) (by kernel_rfl) (by kernel_rfl) (fun _ _ _ h => h) (Or.inl ⟨by rfl, ?h27_14⟩) hS2 ?r27_14
            case h27_14 => (intro wS hSw; obtain ⟨s0, s1, s2, s3⟩ := hSw; go_simp; all_goals (with_reducible rfl))
            simp only [Act.put, List.setIfInBounds_toArray, List.set_cons_zero, List.set_cons_succ]
            refine take_drop (i := 28) (v := ?v28_14) rfl (by kernel_rfl) (by kernel_rfl) (by kernel_rfl) (fun _ _ _ h => h) (Or.inl ⟨by rfl, ?h28_14⟩) hS2 ?r28_14
            case h28_14 => (intro wS hSw; obtain ⟨s0, s1, s2, s3⟩ := hSw; go_simp; all_goals (with_reducible rfl))
            simp only [Act.put, List.setIfInBounds_toArray, List.set_cons_zero, List.set_cons_succ]
            refine take_drop (i := 29) (v := ?v29_14) rfl (by kernel_rfl) (by kernel_rfl) (by kernel_rfl) (fun _ _ _ h => h) (Or.inl ⟨by rfl, ?h29_14⟩) hS2 ?r29_14
            case h29_14 => (intro wS hSw; obtain ⟨s0, s1, s2, s3⟩ := hSw; go_simp; all_goals (with_reducible rfl))
            simp only [Act.put, List.setIfInBounds_toArray, List.set_cons_zero, List.set_cons_succ]
            refine take_drop (i := 30) (v := ?v30_14) rfl (by kernel_rfl) (by kernel_rfl) (by kernel_rfl) (fun _ _ _ h => h) (Or.inl ⟨by rfl, ?h30_14⟩) hS2 ?r30_14
            case h30_14 => (intro wS hSw; obtain ⟨s0, s1, s2, s3⟩ := hSw; go_simp; all_goals (with_reducible rfl))
            simp only [Act.put, List.setIfInBounds_toArray, List.set_cons_zero, List.set_cons_succ]
            refine take_drop (i := 31) (v := ?v31_14) rfl (by kernel_rfl) (by kernel_rfl) (by kernel_rfl) (fun _ _ _ h => h) (Or.inl ⟨by rfl, ?h31_14⟩) hS2 ?r31_14
            case h31_14 => (intro wS hSw; obtain ⟨s0, s1, s2, s3⟩ := hSw; go_simp; all_goals (with_reducible rfl))
            simp only [Act.put, List.setIfInBounds_toArray, List.set_cons_zero, List.set_cons_succ]
            refine take_drop (i := 32) (v := ?v32_14) rfl (by kernel_rfl) (by kernel_rfl) (by kernel_rfl) (fun _ _ _ h => h) (Or.inl ⟨by rfl, ?h32_14⟩) hS2 ?r32_14
            case h32_14 => (intro wS hSw; obtain ⟨s0, s1, s2, s3⟩ := hSw; go_simp; all_goals (with_reducible rfl))
            simp only [Act.put, List.setIfInBounds_toArray, List.set_cons_zero, List.set_cons_succ]
            refine take_drop (i := 33) (v := ?v33_14) rfl (by kernel_rfl) (by kernel_rfl) (by kernel_rfl) (fun _ _ _ h => h) (Or.inl ⟨by rfl, ?h33_14⟩) hS2 ?r33_14
            case h33_14 => (intro wS hSw; obtain ⟨s0, s1, s2, s3⟩ := hSw; go_simp; all_goals (with_reducible rfl))
            simp only [Act.put, List.setIfInBounds_toArray, List.set_cons_zero, List.set_cons_succ]
            refine take_drop (i := 34) (v := ?v34_14) rfl (by kernel_rfl) (by kernel_rfl) (by kernel_rfl) (fun _ _ _ h => h) (Or.inl ⟨by rfl, ?h34_14⟩) hS2 ?r34_14
            case h34_14 => (intro wS hSw; obtain ⟨s0, s1, s2, s3⟩ := hSw; go_simp; all_goals (with_reducible rfl))
            simp only [Act.put, List.setIfInBounds_toArray, List.set_cons_zero, List.set_cons_succ]
            refine take_drop (i := 35) (v := ?v35_14) rfl (by kernel_rfl) (by kernel_rfl) (by kernel_rfl) (fun _ _ _ h => h) (Or.inl ⟨by rfl, ?h35_14⟩) hS2 ?r35_14
            case h35_14 => (intro wS hSw; obtain ⟨s0, s1, s2, s3⟩ := hSw; go_simp; all_goals (with_reducible rfl))
            simp only [Act.put, List.setIfInBounds_toArray, List.set_cons_zero, List.set_cons_succ]
            refine take_drop (i := 36) (v := ?v36_14) rfl (by kernel_rfl) (by kernel_rfl) (by kernel_rfl) (fun _ _ _ h => h) (Or.inl ⟨by rfl, ?h36_14⟩) hS2 ?r36_14
            case h36_14 => (intro wS hSw; obtain ⟨s0, s1, s2, s3⟩ := hSw; go_simp; all_goals (with_reducible rfl))
            simp only [Act.put, List.setIfInBounds_toArray, List.set_cons_zero, List.set_cons_succ]
            refine take_drop (i := 37) (v := undef) rfl (by kernel_rfl) (by kernel_rfl) (by kernel_rfl) (fun _ _ _ h => h) (Or.inr ⟨by rfl, rfl⟩) hS2 ?_
            simp only [Act.put, List.setIfInBounds_toArray, List.set_cons_zero, List.set_cons_succ]
            refine take_drop (i := 38) (v := undef) rfl (by kernel_rfl) (by kernel_rfl) (by kernel_rfl) (fun _ _ _ h => h) (Or.inr ⟨by rfl, rfl⟩) hS2 ?_
            simp only [Act.put, List.setIfInBounds_toArray, List.set_cons_zero, List.set_cons_succ]
            refine take_drop (i := 39) (v := undef) rfl (by kernel_rfl) (by kernel_rfl) (by kernel_rfl) (fun _ _ _ h => h) (Or.inr ⟨by rfl, rfl⟩) hS2 ?_
            simp only [Act.put, List.setIfInBounds_toArray, List.set_cons_zero, List.set_cons_succ]
            refine take_drop (i := 40) (v := ?v40_14) rfl (by kernel_rfl) (by kernel_rfl) (by kernel_rfl) (fun _ _ _ h => h) (Or.inl ⟨by rfl, ?h40_14⟩) hS2 ?r40_14
            case h40_14 => (intro wS hSw; obtain ⟨s0, s1, s2, s3⟩ := hSw; go_simp; all_goals (with_reducible rfl))
            simp only [Act.put, List.setIfInBounds_toArray, List.set_cons_zero, List.set_cons_succ]
            refine take_drop (i := 41) (v := ?v41_14) rfl (by kernel_rfl) (by kernel_rfl) (by kernel_rfl) (fun _ _ _ h => h) (Or.inl ⟨by rfl, ?h41_14⟩) hS2 ?r41_14
            case h41_14 => (intro wS hSw; obtain ⟨s0, s1, s2, s3⟩ := hSw; go_simp; all_goals (with_reducible rfl))
            simp only [Act.put, List.setIfInBounds_toArray, List.set_cons_zero, List.set_cons_succ]
            refine wpAnyH_done (by kernel_rfl) ?_ _

            go_wp2_with fail
            go_roundw
            case rel => exact ⟨j + 1, (tn : Int), X, Y, by simp, by omega, by first | rfl | simp | (congr 1; omega), by omega, HC10.out, HL10.out, HY8.out, HX8.out, HS10.out, HF10.out⟩
            case measure => simp [intOf]; omega
        · obtain rfl : j = ns := by omega
          have d1 : decide ((j : Int) < (j : Int)) = false := by simp
          go_wp2_with fail
          refine (awake_c HM.out _).mono ?_
          rintro e w8 ⟨rfl, f8⟩
          have HF8 := Lib.hid (HF.out.trans f8)
          clear f8
          go_wp2_with fail
          go_ret
          exact ⟨rfl, FIN.out _ HF8.out⟩
end Go.Proofs.Ytkcgdmhggndhfaa
