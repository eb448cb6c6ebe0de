/-
  Layer 6: the walk of MergeTurns, over the contracts of the cursor.
-/
import Derived.Test.YtkcgdmhggndhfaaMgCu
namespace Go.Proofs.Ytkcgdmhggndhfaa
set_option linter.unusedVariables false
open Go.RowKit

def lenOf : Value → Nat
  | .slice _ n _ => n
  | _ => 0
theorem nextI_at (m j : Nat) : nextI m (j : Int) = if j + 1 < m then ((j + 1 : Nat) : Int) else -1 := by
  unfold nextI
  rw [if_neg (by omega)]
  by_cases h : j + 1 < m
  · rw [if_pos h, if_pos (by omega)]
    omega
  · rw [if_neg h, if_neg (by omega)]
theorem nextI_ok (m j : Nat) : decide ((0 : Int) ≤ nextI m (j : Int)) = decide (j + 1 < m) := by
  rw [nextI_at, decide_eq_decide]
  split <;> omega
theorem oneL_le {rs : List Rn} (hs : ∀ x ∈ rs, x.l.length ≤ 40) : (oneP (lens rs)).length ≤ 40 * rs.length := by
  have key : ∀ (ls : List (List P2)) (out : List P2), (∀ l ∈ ls, l.length ≤ 40) → (ls.foldl oneRun out).length ≤ out.length + 40 * ls.length := by
    intro ls
    induction ls with
    | nil => intro out _; exact Nat.le_refl _
    | cons l ls ih =>
      intro out h
      have h1 := oneRun_le l out
      have h2 := h l (List.mem_cons_self ..)
      have h3 := ih (oneRun out l) (fun m hm => h m (List.mem_cons_of_mem _ hm))
      show (ls.foldl oneRun (oneRun out l)).length ≤ _
      rw [List.length_cons]
      omega
  have := key (lens rs) [] (fun m hm => by
    obtain ⟨x, hx, e⟩ := List.mem_map.1 hm
    rw [← e]
    exact hs x hx)
  have h5 : (lens rs).length = rs.length := by unfold lens; rw [List.length_map]
  rw [h5, List.length_nil] at this
  unfold oneP
  omega
set_option maxRecDepth 20000 in
set_option maxHeartbeats 16000000 in
theorem mergeTurns_walk (M : MergeOK) {C : World → Nat → (Nat → Prop) → (Nat → Prop) → List P2 → Int → Prop} (K : CurOK C) (W : World) (a : Option Addr) (cap : Nat) (rs : List Rn) (hc : rs.length ≤ cap) (hm : cap ≤ maxLen) (rd : InR W (Till W.heap.size) a rs)
    (k : Int) (wk : (Lit.int .i64 k).wf = true) :
    Calls Try.prog 8 #[.slice a rs.length cap, .int .i64 k] W fun e w' => e = .returned (.bool true) ∧ Below W.heap.size W w' := by
  have HM := Lib.hid M
  have HK := Lib.hid K
  have HRD := Lib.hid rd
  have HCM := Lib.hid hm
  have HC := Lib.hid hc
  unfold maxLen at hm
  have HSM := Lib.hid (small_c _ a cap rs W hc HCM.out rd)
  have fin : ∀ w' : World, Fr No W w' → Below W.heap.size W w' := fun w' f => f.below (Nat.le_refl _) (fun _ h => h.elim)
  have FIN := Lib.hid fin
  clear fin rd
  cases hsm : smallR rs with
  | false =>
    rw [hsm] at HSM
    clear hsm
    generalize rs.length = n at *
    go_enter Try.func8, Try.ntmps8
    go_wp2_with fail
    refine HSM.out.mono ?_
    rintro e w1 ⟨rfl, rfl⟩
    go_wp2_with fail
    refine (awake_c HM.out _).mono ?_
    rintro e w2 ⟨rfl, f2⟩
    have HF2 := Lib.hid f2
    clear f2
    go_wp2_with fail
    go_ret
    exact ⟨rfl, FIN.out _ HF2.out⟩
  | true =>
    rw [hsm] at HSM
    have HSR := Lib.hid hsm
    obtain ⟨hl, hs⟩ := smallR_le hsm
    have HS := Lib.hid hs
    have HALL := Lib.hid (fun w (f : Fr No W w) => all_c _ a cap rs w (by omega) (fun x hx => Nat.le_trans (hs x hx) (by omega)) hc HCM.out (HRD.out.keep f (fun _ _ h => h)))
    have HRU := Lib.hid (refRuns_c _ a cap rs W HC.out HCM.out (fun x hx => Nat.le_trans (HS.out x hx) (by omega)) HRD.out)
    clear hsm hs
    obtain ⟨n, hn⟩ : ∃ n, rs.length = n := ⟨_, rfl⟩
    rw [hn] at hc hl HSM HALL HRU
    rw [hn]
    have HN := Lib.hid hn
    clear hn
    go_enter Try.func8, Try.ntmps8
    go_wp2_with fail
    refine HSM.out.mono ?_
    rintro e w1 ⟨rfl, rfl⟩
    go_wp2_with fail
    refine HRU.out.mono ?_
    rintro e w2 ⟨rfl, f2⟩
    have HF2 := Lib.hid f2
    cases hR : runsR rs with
    | false =>
      clear hR f2
      go_wp2_with fail
      refine (awake_c HM.out _).mono ?_
      rintro e w3 ⟨rfl, f3⟩
      have HF3 := Lib.hid (HF2.out.trans f3)
      clear f3
      go_wp2_with fail
      go_ret
      exact ⟨rfl, FIN.out _ HF3.out⟩
    | true =>
      have HR := Lib.hid hR
      clear hR f2
      go_wp2_with fail
      refine (HALL.out _ HF2.out).mono ?_
      rintro e w3 ⟨qa, qc, qs, rfl, hqc, hqm, hqs, hq, f3⟩
      have HQS := Lib.hid hqs
      have HF3 := Lib.hid (HF2.out.trans f3)
      have hqn : qs.length = n := (lens_len hqs).trans HN.out
      have HNE := K.new _ qa qc qs w3 (by omega) (lens_mem hqs (fun x hx => Nat.le_trans (HS.out x hx) (by omega))) hqc hqm hq
      unfold maxLen at hqm
      rw [hqn] at hqc HNE
      rw [hqn]
      rw [lens_runs HQS.out, HQS.out] at HNE
      have HNE := Lib.hid HNE
      clear hqs f3 hqn hq
      go_wp2_with fail
      refine HNE.out.mono ?_
      rintro e w4 ⟨f4, _, hyes⟩
      have HF4 := Lib.hid (HF3.out.trans f4)
      obtain ⟨c, X, Y, rfl, hC, hY⟩ := hyes HR.out
      have HC4 := Lib.hid hC
      have HY4 : Hid (∀ k, Y k → W.heap.size ≤ k) := Lib.hid fun k hk => Nat.le_trans HF3.out.size (hY k hk)
      clear hyes f4 hC hY
      obtain ⟨L, hL⟩ : ∃ z, oneP (lens rs) = z := ⟨_, rfl⟩
      rw [hL] at HC4
      have HLB : Hid (L.length ≤ 400) := Lib.hid (by
        have := oneL_le HS.out
        rw [HN.out, hL] at this
        omega)
      clear hL
      have HSE := Lib.hid (HK.out.seek k HC4.out)
      go_wp2_with fail
      refine HSE.out.mono ?_
      rintro e w5 ⟨rfl, X5, Y5, hC5, hX5, hY5, f5⟩
      have HC5 := Lib.hid hC5
      have HY5 : Hid (∀ k, Y5 k → W.heap.size ≤ k) := Lib.hid fun k hk => (hY5 k hk).elim (HY4.out k) (fun h => Nat.le_trans HF4.out.size h.1)
      have HF5 : Hid (Fr No W w5) := Lib.hid (HF4.out.then_ f5 fun k hk hy => absurd (HY4.out k hy) (by omega))
      clear hC5 hX5 hY5 f5
      cases hV : decide ((0 : Int) ≤ seekI L k) with
      | false =>
        clear hV
        have HFI := Lib.hid (HK.out.first HC5.out)
        go_wp2_with fail
        refine HFI.out.mono ?_
        rintro e w7 ⟨rfl, X7, Y7, hC7, hX7, hY7, f7⟩
        obtain ⟨m, hm0⟩ : ∃ z, L.length = z := ⟨_, rfl⟩
        rw [hm0] at hC7 HLB
        rw [hm0]
        have HML := Lib.hid hm0
        have hmb := HLB.out
        have HC7 : Hid (C w7 c X7 Y7 L (if 0 < m then ((0 : Nat) : Int) else -1)) := Lib.hid (by
          rw [show (if 0 < m then ((0 : Nat) : Int) else -1) = firstI m by unfold firstI; split <;> split <;> omega]
          exact hC7)
        have HY7 : Hid (∀ k, Y7 k → W.heap.size ≤ k) := Lib.hid fun k hk => (hY7 k hk).elim (HY5.out k) (fun h => Nat.le_trans HF5.out.size h.1)
        have HF7 : Hid (Fr No W w7) := Lib.hid (HF5.out.then_ f7 fun k hk hy => absurd (HY5.out k hy) (by omega))
        rw [show decide ((0 : Int) ≤ firstI m) = decide (0 < m) by unfold firstI; rw [decide_eq_decide]; split <;> omega]
        clear hC7 hX7 hY7 f7 hm0 HFI HLB
        go_wp2_with fail
        go_loopw [8, 10] (fun v ok wr => ∃ (j : Nat) (X Y T : Nat → Prop), j ≤ m ∧ ok = .bool (decide (j < m)) ∧ C wr c X Y L (if j < m then (j : Int) else -1) ∧ RowG wr T 49 2 v j (p2sC (L.take j)) ∧ (∀ k, Y k → W.heap.size ≤ k) ∧ (∀ k, T k → W.heap.size ≤ k ∧ k < wr.heap.size ∧ ¬ X k ∧ ¬ Y k) ∧ Fr No W wr) (fun v _ _ => m - lenOf v)
        case atStart => exact ⟨0, X7, Y7, No, Nat.zero_le _, rfl, HC7.out, RowG.nil _ _ _ _, HY7.out, fun k h => h.elim, HF7.out⟩
        case round =>
          obtain ⟨j, X, Y, T, hj, rfl, hC, hrow, hY, hT, hfr⟩ := hrel
          have HCr := Lib.hid hC
          have HYr := Lib.hid hY
          have HTr := Lib.hid hT
          have HF := Lib.hid hfr
          obtain ⟨oa, oc, rfl, oc1, oc2, _, _⟩ := hrow.form
          have HROW := Lib.hid hrow
          clear hC hY hT hfr hrow
          unfold maxLen at oc2
          by_cases h1 : j < m
          · have d1 : decide (j < m) = true := by rw [decide_eq_true_eq]; omega
            have hCj := HCr.out
            rw [if_pos h1] at hCj
            have HCj := Lib.hid hCj
            have HIT := HK.out.item HCj.out
            rw [show itemI L (j : Int) = L.getD j p20 by unfold itemI; rw [if_pos (by omega)]; congr 1] at HIT
            have HTK := Lib.hid (take_p2 L j (by rw [HML.out]; exact h1))
            generalize (L.getD j p20).1 = x at *
            generalize (L.getD j p20).2 = y at *
            have HIT := Lib.hid HIT
            clear hCj
            go_wp2_with fail
            refine HIT.out.mono ?_
            rintro e w8 ⟨rfl, f8⟩
            obtain ⟨v9, w9, hrun, hrow9, f9⟩ := (HROW.out.keep f8 (fun _ _ h => h)).push rowMI (fun q hq => Nat.lt_of_lt_of_le (HTr.out q hq).2.1 f8.size) (p2C (x, y)) rfl (by intro u hu; simp [p2C] at hu; rcases hu with rfl | rfl <;> rfl) (by omega) (by omega)
            obtain ⟨pa, pc, rfl, pc1, pc2, _, _⟩ := hrow9.form
            unfold maxLen at pc2
            have HRUN : Hid ((Builtin.append_ #[27, 27] 27 #[.slice oa j oc, .slice (some ⟨w8.heap.size, 0, none⟩) 1 1]).run Try.prog (w8.alloc (.cells #[.int .i64 x, .int .i64 y] 49)) = .ok (.slice pa (j + 1) pc) w9) := Lib.hid hrun
            have HX : Hid (∀ k, X k → k < wr.heap.size) := Lib.hid fun k hk => HK.out.low HCr.out k (.inl hk)
            have HYl : Hid (∀ k, Y k → k < wr.heap.size) := Lib.hid fun k hk => HK.out.low HCr.out k (.inr hk)
            have HS8 := Lib.hid f8.size
            have HS9 := Lib.hid f9.size
            have HC9 := Lib.hid (HK.out.keep (HK.out.keep HCj.out f8 (fun _ _ h => h)) f9 (fun k hk ht => (HTr.out k ht).2.2.1 hk))
            have HF9 : Hid (Fr No W w9) := Lib.hid ((HF.out.trans f8).then_ f9 fun k hk ht => absurd (HTr.out k ht).1 (by omega))
            have HROW9 : Hid (RowG w9 (Gr T w8 w9) 49 2 (.slice pa (j + 1) pc) (j + 1) (p2sC (L.take (j + 1)))) := Lib.hid (by
              rw [HTK.out, p2sC_append]
              exact hrow9)
            have HNX := HK.out.next HC9.out
            rw [HML.out] at HNX
            have HNX := Lib.hid HNX
            have d2 : decide ((1000 : Int) < ((j : Int) + 1)) = false := by rw [decide_eq_false_iff_not]; omega
            clear hrun hrow9 f9 f8
            go_wp2_with (at_builtin; refine wpList_append_run rfl _ _ 27 rfl rfl rfl HRUN.out ?_)
            go_wp2_with fail
            refine HNX.out.mono ?_
            rintro e wz ⟨rfl, Xz, Yz, hCz, hXz, hYz, fz⟩
            have HCz : Hid (C wz c Xz Yz L (if j + 1 < m then ((j + 1 : Nat) : Int) else -1)) := Lib.hid (by
              rw [← nextI_at]
              exact hCz)
            have HFz : Hid (Fr No W wz) := Lib.hid (HF9.out.then_ fz fun k hk hy => absurd (HYr.out k hy) (by omega))
            have HYz : Hid (∀ k, Yz k → W.heap.size ≤ k) := Lib.hid fun k hk => (hYz k hk).elim (HYr.out k) (fun h => Nat.le_trans HF9.out.size h.1)
            have HGT : Hid (∀ k, Gr T w8 w9 k → W.heap.size ≤ k ∧ k < w9.heap.size ∧ ¬ X k ∧ ¬ Y k) := Lib.hid fun k hk => by
              have a1 := HF.out.size
              have a2 := HS8.out
              have a3 := HS9.out
              rcases hk with hk | hk
              · have := HTr.out k hk
                exact ⟨this.1, by omega, this.2.2.1, this.2.2.2⟩
              · exact ⟨by omega, hk.2, fun h => by have := HX.out k h; omega, fun h => by have := HYl.out k h; omega⟩
            have HTz : Hid (∀ k, Gr T w8 w9 k → W.heap.size ≤ k ∧ k < wz.heap.size ∧ ¬ Xz k ∧ ¬ Yz k) := Lib.hid fun k hk => by
              have h0 := HGT.out k hk
              have a1 := fz.size
              exact ⟨h0.1, by omega, fun h => (hXz k h).elim h0.2.2.1 (fun h => by omega), fun h => (hYz k h).elim h0.2.2.2 (fun h => by omega)⟩
            have HRz := Lib.hid (HROW9.out.keep fz (fun k hk hy => (HGT.out k hk).2.2.2 hy))
            rw [nextI_ok]
            clear hCz hXz hYz fz HNX
            go_wp2_with fail
            go_roundw
            case rel => exact ⟨j + 1, Xz, Yz, _, by omega, rfl, HCz.out, HRz.out, HYz.out, HTz.out, HFz.out⟩
            case measure => simp [lenOf]; omega
          · obtain rfl : j = m := by omega
            have d1 : decide (j < j) = false := by simp
            have HR1 : Hid (RowG wr T 49 2 (.slice oa j oc) j (p2sC L)) := Lib.hid (by
              have h := HROW.out
              rw [← HML.out, List.take_length, HML.out] at h
              exact h)
            have hCj := HCr.out
            rw [if_neg h1] at hCj
            have hLA := HK.out.last hCj
            rw [HML.out] at hLA
            have HLA := Lib.hid hLA
            obtain ⟨wA, rfl⟩ : ∃ q, q = wr := ⟨_, rfl⟩
            clear hCj hLA h1 HROW HC7 HY7 HF7
            go_wp2_with fail
            refine HLA.out.mono ?_
            rintro e w7 ⟨rfl, X7, Y7, hC7, hX7, hY7, f7⟩
            have HC7 : Hid (C w7 c X7 Y7 L ((j : Int) - 1 - ((0 : Nat) : Int))) := Lib.hid (by
              rw [show (j : Int) - 1 - ((0 : Nat) : Int) = (j : Int) - 1 by omega]
              exact hC7)
            have HY7 : Hid (∀ k, Y7 k → W.heap.size ≤ k) := Lib.hid fun k hk => (hY7 k hk).elim (HYr.out k) (fun h => Nat.le_trans HF.out.size h.1)
            have HF7 : Hid (Fr No W w7) := Lib.hid (HF.out.then_ f7 fun k hk hy => absurd (HYr.out k hy) (by omega))
            have HR7 := Lib.hid (HR1.out.keep f7 (fun k hk hy => (HTr.out k hk).2.2.2 hy))
            have HT7 : Hid (∀ k, T k → k < w7.heap.size ∧ ¬ X7 k ∧ ¬ Y7 k) := Lib.hid fun k hk => by
              have h0 := HTr.out k hk
              have a1 := f7.size
              exact ⟨by omega, fun h => (hX7 k h).elim h0.2.2.1 (fun h => by omega), fun h => (hY7 k h).elim h0.2.2.2 (fun h => by omega)⟩
            have HU7 : Hid (∀ k, T k → W.heap.size ≤ k) := Lib.hid fun k hk => (HTr.out k hk).1
            have HS7 := Lib.hid f7.size
            have HBB : Hid (W.heap.size ≤ w7.heap.size) := Lib.hid HF7.out.size
            rw [show decide ((0 : Int) ≤ (j : Int) - 1) = decide (0 < j) by rw [decide_eq_decide]; omega]
            clear hC7 hX7 hY7 f7 HLA d1
            generalize hJ : j = m at *
            clear hJ
            obtain ⟨TA, rfl⟩ : ∃ q, q = T := ⟨_, rfl⟩
            obtain ⟨ya, rfl⟩ : ∃ q, q = oa := ⟨_, rfl⟩
            obtain ⟨yc, rfl⟩ : ∃ q, q = oc := ⟨_, rfl⟩
            go_wp2_with fail
            go_loopw [9, 11] (fun v ok wr => ∃ (j : Nat) (X Y T : Nat → Prop), j ≤ m ∧ ok = .bool (decide (j < m)) ∧ C wr c X Y L ((m : Int) - 1 - (j : Int)) ∧ RowG wr T 49 2 v j (p2sC (L.reverse.take j)) ∧ (∀ k, Y k → W.heap.size ≤ k) ∧ (∀ k, T k → w7.heap.size ≤ k ∧ k < wr.heap.size ∧ ¬ X k ∧ ¬ Y k) ∧ Fr No W wr ∧ RowG wr TA 49 2 (.slice ya m yc) m (p2sC L) ∧ (∀ k, TA k → ¬ Y k) ∧ w7.heap.size ≤ wr.heap.size) (fun v _ _ => m - lenOf v)
            case atStart => exact ⟨0, X7, Y7, No, Nat.zero_le _, rfl, HC7.out, RowG.nil _ _ _ _, HY7.out, fun k h => h.elim, HF7.out, HR7.out, fun k h => (HT7.out k h).2.2, Nat.le_refl _⟩
            case round =>
              clear HCr HYr HTr HF HC7 HY7 HF7 HR7
              obtain ⟨j, X, Y, T, hj, rfl, hC, hrow, hY, hT, hfr, hRA, hTA, hsz⟩ := hrel
              have HCr := Lib.hid hC
              have HYr := Lib.hid hY
              have HTr := Lib.hid hT
              have HF := Lib.hid hfr
              have HRA := Lib.hid hRA
              have HTA := Lib.hid hTA
              have HSZ := Lib.hid hsz
              obtain ⟨oa, oc, rfl, oc1, oc2, _, _⟩ := hrow.form
              have HROW := Lib.hid hrow
              clear hC hY hT hfr hrow hRA hTA hsz
              unfold maxLen at oc2
              by_cases h1 : j < m
              · have d1 : decide (j < m) = true := by rw [decide_eq_true_eq]; omega
                have HIT := HK.out.item HCr.out
                rw [show itemI L ((m : Int) - 1 - (j : Int)) = L.reverse.getD j p20 by
                  have h2 := HML.out
                  unfold itemI
                  rw [if_pos (by omega), show ((m : Int) - 1 - (j : Int)).toNat = m - 1 - j by omega, getD_of_lt _ _ (by omega), getD_of_lt _ _ (by rw [List.length_reverse]; omega), List.getElem_reverse]
                  congr 1
                  omega] at HIT
                have HTK := Lib.hid (take_p2 L.reverse j (by rw [List.length_reverse, HML.out]; exact h1))
                generalize (L.reverse.getD j p20).1 = x at *
                generalize (L.reverse.getD j p20).2 = y at *
                have HIT := Lib.hid HIT
                go_wp2_with fail
                refine HIT.out.mono ?_
                rintro e w8 ⟨rfl, f8⟩
                obtain ⟨v9, w9, hrun, hrow9, f9⟩ := (HROW.out.keep f8 (fun _ _ h => h)).push rowMI (fun q hq => Nat.lt_of_lt_of_le (HTr.out q hq).2.1 f8.size) (p2C (x, y)) rfl (by intro u hu; simp [p2C] at hu; rcases hu with rfl | rfl <;> rfl) (by omega) (by omega)
                obtain ⟨pa, pc, rfl, pc1, pc2, _, _⟩ := hrow9.form
                unfold maxLen at pc2
                have HRUN : Hid ((Builtin.append_ #[27, 27] 27 #[.slice oa j oc, .slice (some ⟨w8.heap.size, 0, none⟩) 1 1]).run Try.prog (w8.alloc (.cells #[.int .i64 x, .int .i64 y] 49)) = .ok (.slice pa (j + 1) pc) w9) := Lib.hid hrun
                have HX : Hid (∀ k, X k → k < wr.heap.size) := Lib.hid fun k hk => HK.out.low HCr.out k (.inl hk)
                have HYl : Hid (∀ k, Y k → k < wr.heap.size) := Lib.hid fun k hk => HK.out.low HCr.out k (.inr hk)
                have HS8 := Lib.hid f8.size
                have HS9 := Lib.hid f9.size
                have HC9 := Lib.hid (HK.out.keep (HK.out.keep HCr.out f8 (fun _ _ h => h)) f9 (fun k hk ht => (HTr.out k ht).2.2.1 hk))
                have HF9 : Hid (Fr No W w9) := Lib.hid ((HF.out.trans f8).then_ f9 fun k hk ht => by
                  have a0 := (HTr.out k ht).1
                  have a1 := HBB.out
                  omega)
                have HRA9 := Lib.hid ((HRA.out.keep f8 (fun _ _ h => h)).keep f9 (fun k hk ht => by
                  have a0 := (HTr.out k ht).1
                  have a1 := (HT7.out k hk).1
                  omega))
                have HROW9 : Hid (RowG w9 (Gr T w8 w9) 49 2 (.slice pa (j + 1) pc) (j + 1) (p2sC (L.reverse.take (j + 1)))) := Lib.hid (by
                  rw [HTK.out, p2sC_append]
                  exact hrow9)
                have HPV := HK.out.prev HC9.out
                rw [show prevI ((m : Int) - 1 - (j : Int)) = (m : Int) - 1 - ((j + 1 : Nat) : Int) by unfold prevI; rw [if_neg (by omega)]; omega] at HPV
                have HPV := Lib.hid HPV
                have d2 : decide ((1000 : Int) < ((j : Int) + 1)) = false := by rw [decide_eq_false_iff_not]; omega
                clear hrun hrow9 f9 f8
                go_wp2_with (at_builtin; refine wpList_append_run rfl _ _ 27 rfl rfl rfl HRUN.out ?_)
                go_wp2_with fail
                refine HPV.out.mono ?_
                rintro e wz ⟨rfl, Xz, Yz, hCz, hXz, hYz, fz⟩
                have HCz := Lib.hid hCz
                have HFz : Hid (Fr No W wz) := Lib.hid (HF9.out.then_ fz fun k hk hy => absurd (HYr.out k hy) (by omega))
                have HYz : Hid (∀ k, Yz k → W.heap.size ≤ k) := Lib.hid fun k hk => (hYz k hk).elim (HYr.out k) (fun h => Nat.le_trans HF9.out.size h.1)
                have HGT : Hid (∀ k, Gr T w8 w9 k → w7.heap.size ≤ k ∧ k < w9.heap.size ∧ ¬ X k ∧ ¬ Y k) := Lib.hid fun k hk => by
                  have a1 := HSZ.out
                  have a2 := HS8.out
                  have a3 := HS9.out
                  rcases hk with hk | hk
                  · have := HTr.out k hk
                    exact ⟨this.1, by omega, this.2.2.1, this.2.2.2⟩
                  · exact ⟨by omega, hk.2, fun h => by have := HX.out k h; omega, fun h => by have := HYl.out k h; omega⟩
                have HTz : Hid (∀ k, Gr T w8 w9 k → w7.heap.size ≤ k ∧ k < wz.heap.size ∧ ¬ Xz k ∧ ¬ Yz k) := Lib.hid fun k hk => by
                  have h0 := HGT.out k hk
                  have a1 := fz.size
                  exact ⟨h0.1, by omega, fun h => (hXz k h).elim h0.2.2.1 (fun h => by omega), fun h => (hYz k h).elim h0.2.2.2 (fun h => by omega)⟩
                have HRz := Lib.hid (HROW9.out.keep fz (fun k hk hy => (HGT.out k hk).2.2.2 hy))
                have HRAz := Lib.hid (HRA9.out.keep fz (fun k hk hy => HTA.out k hk hy))
                have HTAz : Hid (∀ k, TA k → ¬ Yz k) := Lib.hid fun k hk h => (hYz k h).elim (HTA.out k hk) (fun h => by
                  have a0 := (HT7.out k hk).1
                  have a1 := HSZ.out
                  have a2 := HS8.out
                  have a3 := HS9.out
                  omega)
                have HSz : Hid (w7.heap.size ≤ wz.heap.size) := Lib.hid (by
                  have a1 := HSZ.out
                  have a2 := HS8.out
                  have a3 := HS9.out
                  have a4 := fz.size
                  omega)
                rw [show decide ((0 : Int) ≤ (m : Int) - 1 - ((j + 1 : Nat) : Int)) = decide (j + 1 < m) by rw [decide_eq_decide]; omega]
                clear hCz hXz hYz fz HPV
                go_wp2_with fail
                go_roundw
                case rel => exact ⟨j + 1, Xz, Yz, _, by omega, rfl, HCz.out, HRz.out, HYz.out, HTz.out, HFz.out, HRAz.out, HTAz.out, HSz.out⟩
                case measure => simp [lenOf]; omega
              · have d1 : decide (j < m) = false := by rw [decide_eq_false_iff_not]; omega
                have hjm : j = m := by omega
                have HR2 : Hid (RowG wr T 49 2 (.slice oa m oc) m (p2sC L.reverse)) := Lib.hid (by
                  have h := HROW.out
                  rw [hjm, List.take_of_length_le (by rw [List.length_reverse, HML.out]; exact Nat.le_refl _)] at h
                  exact h)
                have HVA := HK.out.valid HCr.out
                rw [show decide ((0 : Int) ≤ (m : Int) - 1 - (j : Int)) = false by rw [decide_eq_false_iff_not]; omega] at HVA
                have HVA := Lib.hid HVA
                rw [hjm] at oc1
                rw [hjm]
                obtain ⟨wB, rfl⟩ : ∃ q, q = wr := ⟨_, rfl⟩
                obtain ⟨xa, rfl⟩ : ∃ q, q = oa := ⟨_, rfl⟩
                obtain ⟨xc, rfl⟩ : ∃ q, q = oc := ⟨_, rfl⟩
                clear hjm h1 HROW
                have d0 : ((m : Int) == (m : Int)) = true := by simp
                go_wp2_with fail
                refine HVA.out.mono ?_
                rintro e wC ⟨rfl, fC⟩
                have HFC := Lib.hid (HF.out.trans fC)
                have HA : Hid (InP wC TA ya L) := Lib.hid (by
                  have h := HRA.out.keep fC (fun _ _ h => h)
                  rw [← HML.out] at h
                  obtain ⟨_, _, e, _, _, h3⟩ := h.pairs
                  cases e
                  exact h3)
                have HB : Hid (InP wC T xa L.reverse) := Lib.hid (by
                  have h := HR2.out.keep fC (fun _ _ h => h)
                  rw [show m = L.reverse.length by rw [List.length_reverse, HML.out]] at h
                  obtain ⟨_, _, e, _, _, h3⟩ := h.pairs
                  cases e
                  exact h3)
                have HREV : Hid (∀ i, i < m → L.reverse.getD (m - 1 - i) p20 = L.getD i p20) := Lib.hid fun i hi => by
                  have h2 := HML.out
                  rw [getD_of_lt _ _ (by rw [List.length_reverse]; omega), getD_of_lt _ _ (by omega), List.getElem_reverse]
                  congr 1
                  omega
                clear fC HRA HR2
                go_wp2_with fail
                go_loopw [89] (fun i wr => ∃ j : Nat, i = .int .i64 j ∧ j ≤ m ∧ Fr No wC wr) (fun i _ => m - (intOf i).toNat)
                case atStart => exact ⟨0, rfl, Nat.zero_le _, Fr.refl _ _⟩
                case round =>
                  obtain ⟨j, rfl, hj, hfr⟩ := hrel
                  have HG := Lib.hid hfr
                  clear hfr
                  by_cases h1 : j < m
                  · have d2 : decide ((j : Int) < (m : Int)) = true := by rw [decide_eq_true_eq]; omega
                    obtain ⟨g, o, _, rfl, hx⟩ := HA.out (by rw [HML.out]; omega)
                    obtain ⟨g', o', _, rfl, hx'⟩ := HB.out (by rw [List.length_reverse, HML.out]; omega)
                    have q0 := HG.out.cell (hx j (by rw [HML.out]; exact h1)).1 (fun h => h)
                    have q1 := HG.out.cell (hx j (by rw [HML.out]; exact h1)).2 (fun h => h)
                    have r0 := HG.out.cell (hx' (m - 1 - j) (by rw [List.length_reverse, HML.out]; omega)).1 (fun h => h)
                    have r1 := HG.out.cell (hx' (m - 1 - j) (by rw [List.length_reverse, HML.out]; omega)).2 (fun h => h)
                    rw [HREV.out j h1] at r0 r1
                    clear hx hx'
                    generalize (L.getD j p20).1 = x at *
                    generalize (L.getD j p20).2 = y at *
                    obtain ⟨u, hu⟩ : ∃ u, m - 1 - j = u := ⟨_, rfl⟩
                    rw [hu] at r0 r1
                    obtain rfl : m = u + 1 + j := by omega
                    clear hu
                    have d3 : (x == x) = true := by simp
                    have d4 : (y == y) = true := by simp
                    have b1 : (0 : Int) ≤ (u : Int) := by omega
                    have b2 : (u : Int) < ((u + 1 + j : Nat) : Int) := by omega
                    have b3 : (j : Int) < ((u + 1 + j : Nat) : Int) := by omega
                    have b4 : ((u + 1 + j : Nat) : Int) - 1 - (j : Int) = (u : Int) := by omega
                    go_wp2_with fail
                    go_region
                    go_wp2_with fail
                    go_roundw
                    case rel => exact ⟨j + 1, by simp, by omega, HG.out.drew⟩
                    case measure => simp [intOf]; omega
                  · have d2 : decide ((j : Int) < (m : Int)) = false := by rw [decide_eq_false_iff_not]; omega
                    have HFE := Lib.hid (HFC.out.trans HG.out)
                    go_wp2_with fail
                    refine (awake_c HM.out _).mono ?_
                    rintro e w8 ⟨rfl, f8⟩
                    have HF8 := Lib.hid (HFE.out.trans f8)
                    clear f8
                    go_wp2_with fail
                    go_ret
                    exact ⟨rfl, FIN.out _ HF8.out⟩
      | true =>
        have ht : 0 ≤ seekI L k := of_decide_eq_true hV
        clear hV
        obtain ⟨t, et⟩ : ∃ t : Nat, seekI L k = (t : Int) := ⟨(seekI L k).toNat, by omega⟩
        rw [et] at HC5
        have HI2 := Lib.hid (fun w X Y (h : C w c X Y L (t : Int)) => HK.out.item h)
        have HIT := Lib.hid (HK.out.item HC5.out)
        clear et ht
        generalize (itemI L (t : Int)).1 = xk at *
        generalize (itemI L (t : Int)).2 = xv at *
        go_wp2_with fail
        refine HIT.out.mono ?_
        rintro e w6 ⟨rfl, f6⟩
        have hC6 := HK.out.keep HC5.out f6 (fun _ _ h => h)
        have fB := (Fr.refl No w6).alloc (.cells #[.int .i64 xk, .int .i64 xv] 49)
        have x0 : (w6.alloc (.cells #[.int .i64 xk, .int .i64 xv] 49)).drew.cell? ⟨w6.heap.size, 0, none⟩ = some (.int .i64 xk) := (At.new w6 49 #[.int .i64 xk, .int .i64 xv]).cell 0
        have x1 : (w6.alloc (.cells #[.int .i64 xk, .int .i64 xv] 49)).drew.cell? ⟨w6.heap.size, 1, none⟩ = some (.int .i64 xv) := (At.new w6 49 #[.int .i64 xk, .int .i64 xv]).cell 1
        have HCD := Lib.hid (HK.out.keep hC6 fB.drew (fun _ _ h => h))
        have HFD := Lib.hid ((HF5.out.trans f6).trans fB.drew)
        have HSD : Hid (w6.heap.size < (w6.alloc (.cells #[.int .i64 xk, .int .i64 xv] 49)).drew.heap.size) := Lib.hid (by show w6.heap.size < (w6.alloc _).heap.size; simp)
        have hlow := HK.out.low hC6
        have HN5 : Hid (∀ k, Y5 k → ¬ (k = w6.heap.size)) := Lib.hid fun k hk => Nat.ne_of_lt (hlow k (.inr hk))
        have HNX := HK.out.next HCD.out
        rw [nextI_at] at HNX
        clear hC6 fB f6 hlow
        by_cases hz : t + 1 < L.length
        · as_aux_lemma =>
            rw [if_pos hz] at HNX
            have HNX := Lib.hid HNX
            have r1 : (xk == xk) = true := by simp
            have r2 : (xv == xv) = true := by simp
            go_wp2_with fail
            refine wp_region_held_drew (S := fun w' => w'.cell? ⟨w6.heap.size, 0, none⟩ = some (.int .i64 xk) ∧ w'.cell? ⟨w6.heap.size, 1, none⟩ = some (.int .i64 xv)) (by kernel_rfl) ⟨x0, x1⟩ (fun hHeld => ?_)
            refine take_drop (i := 0) (v := ?v0_1) rfl (by kernel_rfl) (by kernel_rfl) (by kernel_rfl) (fun _ _ _ h => h) (Or.inl ⟨by rfl, ?h0_1⟩) hHeld ?r0_1
            case h0_1 => (intro wS hSw; obtain ⟨s0, s1⟩ := hSw; go_simp; all_goals (with_reducible rfl))
            simp only [Act.put, List.setIfInBounds_toArray, List.set_cons_zero, List.set_cons_succ]
            refine wpAnyH_ready (rs := [1]) (by kernel_rfl) (by simp) ?_
            refine do_drop (i := 1) rfl (fun K hK => ?_) AllReadyH.nil
            go_simp
            refine HNX.out.mono ?_
            rintro e w8 ⟨rfl, X8, Y8, hC8, hX8, hY8, f8⟩
            rw [show decide ((0 : Int) ≤ ((t + 1 : Nat) : Int)) = true by rw [decide_eq_true_eq]; omega]
            have y0 := f8.cell x0 (fun hy => HN5.out _ hy rfl)
            have y1 := f8.cell x1 (fun hy => HN5.out _ hy rfl)
            have HF8 : Hid (Fr No W w8) := Lib.hid (HFD.out.then_ f8 fun k hk hy => absurd (HY5.out k hy) (by omega))
            have HY8 : Hid (∀ k, Y8 k → W.heap.size ≤ k) := Lib.hid fun k hk => (hY8 k hk).elim (HY5.out k) (fun h => Nat.le_trans HFD.out.size h.1)
            have HN8 : Hid (∀ k, Y8 k → ¬ (k = w6.heap.size)) := Lib.hid fun k hk => (hY8 k hk).elim (HN5.out k) (fun h => by
              have := HSD.out
              omega)
            have HC8 := Lib.hid hC8
            have HPV := HK.out.prev hC8
            rw [show prevI ((t + 1 : Nat) : Int) = (t : Int) by unfold prevI; rw [if_neg (by omega)]; omega] at HPV
            have HPV := Lib.hid HPV
            clear hC8 hX8 hY8 f8
            refine hK.out _ _ ⟨y0, y1⟩ ?_
            clear hK K
            try simp only [Act.put, List.setIfInBounds_toArray, List.set_cons_zero, List.set_cons_succ]
            have hS2 := And.intro y0 y1
            clear hHeld
            refine take_drop (i := 2) (v := ?v2_1) rfl (by kernel_rfl) (by kernel_rfl) (by kernel_rfl) (fun _ _ _ h => h) (Or.inl ⟨by rfl, ?h2_1⟩) hS2 ?r2_1
            case h2_1 => (intro wS hSw; obtain ⟨s0, s1⟩ := hSw; go_simp; all_goals (with_reducible rfl))
            simp only [Act.put, List.setIfInBounds_toArray, List.set_cons_zero, List.set_cons_succ]
            refine take_drop (i := 3) (v := ?v3_1) rfl (by kernel_rfl) (by kernel_rfl) (by kernel_rfl) (fun _ _ _ h => h) (Or.inl ⟨by rfl, ?h3_1⟩) hS2 ?r3_1
            case h3_1 => (intro wS hSw; obtain ⟨s0, s1⟩ := hSw; go_simp; all_goals (with_reducible rfl))
            simp only [Act.put, List.setIfInBounds_toArray, List.set_cons_zero, List.set_cons_succ]
            refine wpAnyH_ready (rs := [4]) (by kernel_rfl) (by simp) ?_
            refine do_drop (i := 4) rfl (fun K hK => ?_) AllReadyH.nil
            go_simp
            refine HPV.out.mono ?_
            rintro e w9 ⟨rfl, X9, Y9, hC9, hX9, hY9, f9⟩
            rw [show decide ((0 : Int) ≤ (t : Int)) = true by rw [decide_eq_true_eq]; omega]
            have z0 := f9.cell y0 (fun hy => HN8.out _ hy rfl)
            have z1 := f9.cell y1 (fun hy => HN8.out _ hy rfl)
            have HF9 : Hid (Fr No W w9) := Lib.hid (HF8.out.then_ f9 fun k hk hy => absurd (HY8.out k hy) (by omega))
            have HY9 : Hid (∀ k, Y9 k → W.heap.size ≤ k) := Lib.hid fun k hk => (hY9 k hk).elim (HY8.out k) (fun h => Nat.le_trans HF8.out.size h.1)
            have HC9 := Lib.hid hC9
            have HI9 := Lib.hid (HI2.out _ _ _ hC9)
            clear hC9 hX9 hY9 f9
            refine hK.out _ _ ⟨z0, z1⟩ ?_
            clear hK K
            try simp only [Act.put, List.setIfInBounds_toArray, List.set_cons_zero, List.set_cons_succ]
            have hS3 := And.intro z0 z1
            clear hS2
            refine take_drop (i := 5) (v := ?v5_1) rfl (by kernel_rfl) (by kernel_rfl) (by kernel_rfl) (fun _ _ _ h => h) (Or.inl ⟨by rfl, ?h5_1⟩) hS3 ?r5_1
            case h5_1 => (intro wS hSw; obtain ⟨s0, s1⟩ := hSw; go_simp; all_goals (with_reducible rfl))
            simp only [Act.put, List.setIfInBounds_toArray, List.set_cons_zero, List.set_cons_succ]
            refine take_drop (i := 6) (v := ?v6_1) rfl (by kernel_rfl) (by kernel_rfl) (by kernel_rfl) (fun _ _ _ h => h) (Or.inl ⟨by rfl, ?h6_1⟩) hS3 ?r6_1
            case h6_1 => (intro wS hSw; obtain ⟨s0, s1⟩ := hSw; go_simp; all_goals (with_reducible rfl))
            simp only [Act.put, List.setIfInBounds_toArray, List.set_cons_zero, List.set_cons_succ]
            refine take_drop (i := 7) (v := ?v7_1) rfl (by kernel_rfl) (by kernel_rfl) (by kernel_rfl) (fun _ _ _ h => h) (Or.inl ⟨by rfl, ?h7_1⟩) hS3 ?r7_1
            case h7_1 => (intro wS hSw; obtain ⟨s0, s1⟩ := hSw; go_simp; all_goals (with_reducible rfl))
            simp only [Act.put, List.setIfInBounds_toArray, List.set_cons_zero, List.set_cons_succ]
            refine take_drop (i := 9) (v := ?v9_1) rfl (by kernel_rfl) (by kernel_rfl) (by kernel_rfl) (fun _ _ _ h => h) (Or.inl ⟨by rfl, ?h9_1⟩) hS3 ?r9_1
            case h9_1 => (intro wS hSw; obtain ⟨s0, s1⟩ := hSw; go_simp; all_goals (with_reducible rfl))
            simp only [Act.put, List.setIfInBounds_toArray, List.set_cons_zero, List.set_cons_succ]
            refine wpAnyH_ready (rs := [8]) (by kernel_rfl) (by simp) ?_
            refine do_drop (i := 8) rfl (fun K hK => ?_) AllReadyH.nil
            go_simp
            refine HI9.out.mono ?_
            rintro e wX ⟨rfl, fX⟩
            have t0 := fX.cell z0 (fun h => h)
            have t1 := fX.cell z1 (fun h => h)
            have HFX := Lib.hid (HF9.out.trans fX)
            have HCX := Lib.hid (HK.out.keep HC9.out fX (fun _ _ h => h))
            clear fX
            refine hK.out _ _ ⟨t0, t1⟩ ?_
            clear hK K
            try simp only [Act.put, List.setIfInBounds_toArray, List.set_cons_zero, List.set_cons_succ]
            have hS4 := And.intro t0 t1
            clear hS3
            refine take_drop (i := 10) (v := ?v10_1) rfl (by kernel_rfl) (by kernel_rfl) (by kernel_rfl) (fun _ _ _ h => h) (Or.inl ⟨by rfl, ?h10_1⟩) hS4 ?r10_1
            case h10_1 => (intro wS hSw; obtain ⟨s0, s1⟩ := hSw; go_simp; all_goals (with_reducible rfl))
            simp only [Act.put, List.setIfInBounds_toArray, List.set_cons_zero, List.set_cons_succ]
            refine take_drop (i := 11) (v := ?v11_1) rfl (by kernel_rfl) (by kernel_rfl) (by kernel_rfl) (fun _ _ _ h => h) (Or.inl ⟨by rfl, ?h11_1⟩) hS4 ?r11_1
            case h11_1 => (intro wS hSw; obtain ⟨s0, s1⟩ := hSw; go_simp; all_goals (with_reducible rfl))
            simp only [Act.put, List.setIfInBounds_toArray, List.set_cons_zero, List.set_cons_succ]
            refine take_drop (i := 12) (v := ?v12_1) rfl (by kernel_rfl) (by kernel_rfl) (by kernel_rfl) (fun _ _ _ h => h) (Or.inl ⟨by rfl, ?h12_1⟩) hS4 ?r12_1
            case h12_1 => (intro wS hSw; obtain ⟨s0, s1⟩ := hSw; go_simp; all_goals (with_reducible rfl))
            simp only [Act.put, List.setIfInBounds_toArray, List.set_cons_zero, List.set_cons_succ]
            refine wpAnyH_done (by kernel_rfl) ?_ _
            clear HC5 HF5 HY5
            have HC5 := HCX
            have HF5 := HFX
            have HY5 := HY9
            clear HCX HFX HY9 HC9 HC8 HF9 HF8 HY8 HN8 HPV HI9 HCD HFD HSD HN5 HNX HIT HI2 hS4 x0 x1 y0 y1 z0 z1 t0 t1 hz r1 r2
            have HFI := Lib.hid (HK.out.first HC5.out)
            go_wp2_with fail
            refine HFI.out.mono ?_
            rintro e w7 ⟨rfl, X7, Y7, hC7, hX7, hY7, f7⟩
            obtain ⟨m, hm0⟩ : ∃ z, L.length = z := ⟨_, rfl⟩
            rw [hm0] at hC7 HLB
            rw [hm0]
            have HML := Lib.hid hm0
            have hmb := HLB.out
            have HC7 : Hid (C w7 c X7 Y7 L (if 0 < m then ((0 : Nat) : Int) else -1)) := Lib.hid (by
              rw [show (if 0 < m then ((0 : Nat) : Int) else -1) = firstI m by unfold firstI; split <;> split <;> omega]
              exact hC7)
            have HY7 : Hid (∀ k, Y7 k → W.heap.size ≤ k) := Lib.hid fun k hk => (hY7 k hk).elim (HY5.out k) (fun h => Nat.le_trans HF5.out.size h.1)
            have HF7 : Hid (Fr No W w7) := Lib.hid (HF5.out.then_ f7 fun k hk hy => absurd (HY5.out k hy) (by omega))
            rw [show decide ((0 : Int) ≤ firstI m) = decide (0 < m) by unfold firstI; rw [decide_eq_decide]; split <;> omega]
            clear hC7 hX7 hY7 f7 hm0 HFI HLB
            go_wp2_with fail
            go_loopw [8, 10] (fun v ok wr => ∃ (j : Nat) (X Y T : Nat → Prop), j ≤ m ∧ ok = .bool (decide (j < m)) ∧ C wr c X Y L (if j < m then (j : Int) else -1) ∧ RowG wr T 49 2 v j (p2sC (L.take j)) ∧ (∀ k, Y k → W.heap.size ≤ k) ∧ (∀ k, T k → W.heap.size ≤ k ∧ k < wr.heap.size ∧ ¬ X k ∧ ¬ Y k) ∧ Fr No W wr) (fun v _ _ => m - lenOf v)
            case atStart => exact ⟨0, X7, Y7, No, Nat.zero_le _, rfl, HC7.out, RowG.nil _ _ _ _, HY7.out, fun k h => h.elim, HF7.out⟩
            case round =>
              obtain ⟨j, X, Y, T, hj, rfl, hC, hrow, hY, hT, hfr⟩ := hrel
              have HCr := Lib.hid hC
              have HYr := Lib.hid hY
              have HTr := Lib.hid hT
              have HF := Lib.hid hfr
              obtain ⟨oa, oc, rfl, oc1, oc2, _, _⟩ := hrow.form
              have HROW := Lib.hid hrow
              clear hC hY hT hfr hrow
              unfold maxLen at oc2
              by_cases h1 : j < m
              · have d1 : decide (j < m) = true := by rw [decide_eq_true_eq]; omega
                have hCj := HCr.out
                rw [if_pos h1] at hCj
                have HCj := Lib.hid hCj
                have HIT := HK.out.item HCj.out
                rw [show itemI L (j : Int) = L.getD j p20 by unfold itemI; rw [if_pos (by omega)]; congr 1] at HIT
                have HTK := Lib.hid (take_p2 L j (by rw [HML.out]; exact h1))
                generalize (L.getD j p20).1 = x at *
                generalize (L.getD j p20).2 = y at *
                have HIT := Lib.hid HIT
                clear hCj
                go_wp2_with fail
                refine HIT.out.mono ?_
                rintro e w8 ⟨rfl, f8⟩
                obtain ⟨v9, w9, hrun, hrow9, f9⟩ := (HROW.out.keep f8 (fun _ _ h => h)).push rowMI (fun q hq => Nat.lt_of_lt_of_le (HTr.out q hq).2.1 f8.size) (p2C (x, y)) rfl (by intro u hu; simp [p2C] at hu; rcases hu with rfl | rfl <;> rfl) (by omega) (by omega)
                obtain ⟨pa, pc, rfl, pc1, pc2, _, _⟩ := hrow9.form
                unfold maxLen at pc2
                have HRUN : Hid ((Builtin.append_ #[27, 27] 27 #[.slice oa j oc, .slice (some ⟨w8.heap.size, 0, none⟩) 1 1]).run Try.prog (w8.alloc (.cells #[.int .i64 x, .int .i64 y] 49)) = .ok (.slice pa (j + 1) pc) w9) := Lib.hid hrun
                have HX : Hid (∀ k, X k → k < wr.heap.size) := Lib.hid fun k hk => HK.out.low HCr.out k (.inl hk)
                have HYl : Hid (∀ k, Y k → k < wr.heap.size) := Lib.hid fun k hk => HK.out.low HCr.out k (.inr hk)
                have HS8 := Lib.hid f8.size
                have HS9 := Lib.hid f9.size
                have HC9 := Lib.hid (HK.out.keep (HK.out.keep HCj.out f8 (fun _ _ h => h)) f9 (fun k hk ht => (HTr.out k ht).2.2.1 hk))
                have HF9 : Hid (Fr No W w9) := Lib.hid ((HF.out.trans f8).then_ f9 fun k hk ht => absurd (HTr.out k ht).1 (by omega))
                have HROW9 : Hid (RowG w9 (Gr T w8 w9) 49 2 (.slice pa (j + 1) pc) (j + 1) (p2sC (L.take (j + 1)))) := Lib.hid (by
                  rw [HTK.out, p2sC_append]
                  exact hrow9)
                have HNX := HK.out.next HC9.out
                rw [HML.out] at HNX
                have HNX := Lib.hid HNX
                have d2 : decide ((1000 : Int) < ((j : Int) + 1)) = false := by rw [decide_eq_false_iff_not]; omega
                clear hrun hrow9 f9 f8
                go_wp2_with (at_builtin; refine wpList_append_run rfl _ _ 27 rfl rfl rfl HRUN.out ?_)
                go_wp2_with fail
                refine HNX.out.mono ?_
                rintro e wz ⟨rfl, Xz, Yz, hCz, hXz, hYz, fz⟩
                have HCz : Hid (C wz c Xz Yz L (if j + 1 < m then ((j + 1 : Nat) : Int) else -1)) := Lib.hid (by
                  rw [← nextI_at]
                  exact hCz)
                have HFz : Hid (Fr No W wz) := Lib.hid (HF9.out.then_ fz fun k hk hy => absurd (HYr.out k hy) (by omega))
                have HYz : Hid (∀ k, Yz k → W.heap.size ≤ k) := Lib.hid fun k hk => (hYz k hk).elim (HYr.out k) (fun h => Nat.le_trans HF9.out.size h.1)
                have HGT : Hid (∀ k, Gr T w8 w9 k → W.heap.size ≤ k ∧ k < w9.heap.size ∧ ¬ X k ∧ ¬ Y k) := Lib.hid fun k hk => by
                  have a1 := HF.out.size
                  have a2 := HS8.out
                  have a3 := HS9.out
                  rcases hk with hk | hk
                  · have := HTr.out k hk
                    exact ⟨this.1, by omega, this.2.2.1, this.2.2.2⟩
                  · exact ⟨by omega, hk.2, fun h => by have := HX.out k h; omega, fun h => by have := HYl.out k h; omega⟩
                have HTz : Hid (∀ k, Gr T w8 w9 k → W.heap.size ≤ k ∧ k < wz.heap.size ∧ ¬ Xz k ∧ ¬ Yz k) := Lib.hid fun k hk => by
                  have h0 := HGT.out k hk
                  have a1 := fz.size
                  exact ⟨h0.1, by omega, fun h => (hXz k h).elim h0.2.2.1 (fun h => by omega), fun h => (hYz k h).elim h0.2.2.2 (fun h => by omega)⟩
                have HRz := Lib.hid (HROW9.out.keep fz (fun k hk hy => (HGT.out k hk).2.2.2 hy))
                rw [nextI_ok]
                clear hCz hXz hYz fz HNX
                go_wp2_with fail
                go_roundw
                case rel => exact ⟨j + 1, Xz, Yz, _, by omega, rfl, HCz.out, HRz.out, HYz.out, HTz.out, HFz.out⟩
                case measure => simp [lenOf]; omega
              · obtain rfl : j = m := by omega
                have d1 : decide (j < j) = false := by simp
                have HR1 : Hid (RowG wr T 49 2 (.slice oa j oc) j (p2sC L)) := Lib.hid (by
                  have h := HROW.out
                  rw [← HML.out, List.take_length, HML.out] at h
                  exact h)
                have hCj := HCr.out
                rw [if_neg h1] at hCj
                have hLA := HK.out.last hCj
                rw [HML.out] at hLA
                have HLA := Lib.hid hLA
                obtain ⟨wA, rfl⟩ : ∃ q, q = wr := ⟨_, rfl⟩
                clear hCj hLA h1 HROW HC7 HY7 HF7
                go_wp2_with fail
                refine HLA.out.mono ?_
                rintro e w7 ⟨rfl, X7, Y7, hC7, hX7, hY7, f7⟩
                have HC7 : Hid (C w7 c X7 Y7 L ((j : Int) - 1 - ((0 : Nat) : Int))) := Lib.hid (by
                  rw [show (j : Int) - 1 - ((0 : Nat) : Int) = (j : Int) - 1 by omega]
                  exact hC7)
                have HY7 : Hid (∀ k, Y7 k → W.heap.size ≤ k) := Lib.hid fun k hk => (hY7 k hk).elim (HYr.out k) (fun h => Nat.le_trans HF.out.size h.1)
                have HF7 : Hid (Fr No W w7) := Lib.hid (HF.out.then_ f7 fun k hk hy => absurd (HYr.out k hy) (by omega))
                have HR7 := Lib.hid (HR1.out.keep f7 (fun k hk hy => (HTr.out k hk).2.2.2 hy))
                have HT7 : Hid (∀ k, T k → k < w7.heap.size ∧ ¬ X7 k ∧ ¬ Y7 k) := Lib.hid fun k hk => by
                  have h0 := HTr.out k hk
                  have a1 := f7.size
                  exact ⟨by omega, fun h => (hX7 k h).elim h0.2.2.1 (fun h => by omega), fun h => (hY7 k h).elim h0.2.2.2 (fun h => by omega)⟩
                have HU7 : Hid (∀ k, T k → W.heap.size ≤ k) := Lib.hid fun k hk => (HTr.out k hk).1
                have HS7 := Lib.hid f7.size
                have HBB : Hid (W.heap.size ≤ w7.heap.size) := Lib.hid HF7.out.size
                rw [show decide ((0 : Int) ≤ (j : Int) - 1) = decide (0 < j) by rw [decide_eq_decide]; omega]
                clear hC7 hX7 hY7 f7 HLA d1
                generalize hJ : j = m at *
                clear hJ
                obtain ⟨TA, rfl⟩ : ∃ q, q = T := ⟨_, rfl⟩
                obtain ⟨ya, rfl⟩ : ∃ q, q = oa := ⟨_, rfl⟩
                obtain ⟨yc, rfl⟩ : ∃ q, q = oc := ⟨_, rfl⟩
                go_wp2_with fail
                go_loopw [9, 11] (fun v ok wr => ∃ (j : Nat) (X Y T : Nat → Prop), j ≤ m ∧ ok = .bool (decide (j < m)) ∧ C wr c X Y L ((m : Int) - 1 - (j : Int)) ∧ RowG wr T 49 2 v j (p2sC (L.reverse.take j)) ∧ (∀ k, Y k → W.heap.size ≤ k) ∧ (∀ k, T k → w7.heap.size ≤ k ∧ k < wr.heap.size ∧ ¬ X k ∧ ¬ Y k) ∧ Fr No W wr ∧ RowG wr TA 49 2 (.slice ya m yc) m (p2sC L) ∧ (∀ k, TA k → ¬ Y k) ∧ w7.heap.size ≤ wr.heap.size) (fun v _ _ => m - lenOf v)
                case atStart => exact ⟨0, X7, Y7, No, Nat.zero_le _, rfl, HC7.out, RowG.nil _ _ _ _, HY7.out, fun k h => h.elim, HF7.out, HR7.out, fun k h => (HT7.out k h).2.2, Nat.le_refl _⟩
                case round =>
                  clear HCr HYr HTr HF HC7 HY7 HF7 HR7
                  obtain ⟨j, X, Y, T, hj, rfl, hC, hrow, hY, hT, hfr, hRA, hTA, hsz⟩ := hrel
                  have HCr := Lib.hid hC
                  have HYr := Lib.hid hY
                  have HTr := Lib.hid hT
                  have HF := Lib.hid hfr
                  have HRA := Lib.hid hRA
                  have HTA := Lib.hid hTA
                  have HSZ := Lib.hid hsz
                  obtain ⟨oa, oc, rfl, oc1, oc2, _, _⟩ := hrow.form
                  have HROW := Lib.hid hrow
                  clear hC hY hT hfr hrow hRA hTA hsz
                  unfold maxLen at oc2
                  by_cases h1 : j < m
                  · have d1 : decide (j < m) = true := by rw [decide_eq_true_eq]; omega
                    have HIT := HK.out.item HCr.out
                    rw [show itemI L ((m : Int) - 1 - (j : Int)) = L.reverse.getD j p20 by
                      have h2 := HML.out
                      unfold itemI
                      rw [if_pos (by omega), show ((m : Int) - 1 - (j : Int)).toNat = m - 1 - j by omega, getD_of_lt _ _ (by omega), getD_of_lt _ _ (by rw [List.length_reverse]; omega), List.getElem_reverse]
                      congr 1
                      omega] at HIT
                    have HTK := Lib.hid (take_p2 L.reverse j (by rw [List.length_reverse, HML.out]; exact h1))
                    generalize (L.reverse.getD j p20).1 = x at *
                    generalize (L.reverse.getD j p20).2 = y at *
                    have HIT := Lib.hid HIT
                    go_wp2_with fail
                    refine HIT.out.mono ?_
                    rintro e w8 ⟨rfl, f8⟩
                    obtain ⟨v9, w9, hrun, hrow9, f9⟩ := (HROW.out.keep f8 (fun _ _ h => h)).push rowMI (fun q hq => Nat.lt_of_lt_of_le (HTr.out q hq).2.1 f8.size) (p2C (x, y)) rfl (by intro u hu; simp [p2C] at hu; rcases hu with rfl | rfl <;> rfl) (by omega) (by omega)
                    obtain ⟨pa, pc, rfl, pc1, pc2, _, _⟩ := hrow9.form
                    unfold maxLen at pc2
                    have HRUN : Hid ((Builtin.append_ #[27, 27] 27 #[.slice oa j oc, .slice (some ⟨w8.heap.size, 0, none⟩) 1 1]).run Try.prog (w8.alloc (.cells #[.int .i64 x, .int .i64 y] 49)) = .ok (.slice pa (j + 1) pc) w9) := Lib.hid hrun
                    have HX : Hid (∀ k, X k → k < wr.heap.size) := Lib.hid fun k hk => HK.out.low HCr.out k (.inl hk)
                    have HYl : Hid (∀ k, Y k → k < wr.heap.size) := Lib.hid fun k hk => HK.out.low HCr.out k (.inr hk)
                    have HS8 := Lib.hid f8.size
                    have HS9 := Lib.hid f9.size
                    have HC9 := Lib.hid (HK.out.keep (HK.out.keep HCr.out f8 (fun _ _ h => h)) f9 (fun k hk ht => (HTr.out k ht).2.2.1 hk))
                    have HF9 : Hid (Fr No W w9) := Lib.hid ((HF.out.trans f8).then_ f9 fun k hk ht => by
                      have a0 := (HTr.out k ht).1
                      have a1 := HBB.out
                      omega)
                    have HRA9 := Lib.hid ((HRA.out.keep f8 (fun _ _ h => h)).keep f9 (fun k hk ht => by
                      have a0 := (HTr.out k ht).1
                      have a1 := (HT7.out k hk).1
                      omega))
                    have HROW9 : Hid (RowG w9 (Gr T w8 w9) 49 2 (.slice pa (j + 1) pc) (j + 1) (p2sC (L.reverse.take (j + 1)))) := Lib.hid (by
                      rw [HTK.out, p2sC_append]
                      exact hrow9)
                    have HPV := HK.out.prev HC9.out
                    rw [show prevI ((m : Int) - 1 - (j : Int)) = (m : Int) - 1 - ((j + 1 : Nat) : Int) by unfold prevI; rw [if_neg (by omega)]; omega] at HPV
                    have HPV := Lib.hid HPV
                    have d2 : decide ((1000 : Int) < ((j : Int) + 1)) = false := by rw [decide_eq_false_iff_not]; omega
                    clear hrun hrow9 f9 f8
                    go_wp2_with (at_builtin; refine wpList_append_run rfl _ _ 27 rfl rfl rfl HRUN.out ?_)
                    go_wp2_with fail
                    refine HPV.out.mono ?_
                    rintro e wz ⟨rfl, Xz, Yz, hCz, hXz, hYz, fz⟩
                    have HCz := Lib.hid hCz
                    have HFz : Hid (Fr No W wz) := Lib.hid (HF9.out.then_ fz fun k hk hy => absurd (HYr.out k hy) (by omega))
                    have HYz : Hid (∀ k, Yz k → W.heap.size ≤ k) := Lib.hid fun k hk => (hYz k hk).elim (HYr.out k) (fun h => Nat.le_trans HF9.out.size h.1)
                    have HGT : Hid (∀ k, Gr T w8 w9 k → w7.heap.size ≤ k ∧ k < w9.heap.size ∧ ¬ X k ∧ ¬ Y k) := Lib.hid fun k hk => by
                      have a1 := HSZ.out
                      have a2 := HS8.out
                      have a3 := HS9.out
                      rcases hk with hk | hk
                      · have := HTr.out k hk
                        exact ⟨this.1, by omega, this.2.2.1, this.2.2.2⟩
                      · exact ⟨by omega, hk.2, fun h => by have := HX.out k h; omega, fun h => by have := HYl.out k h; omega⟩
                    have HTz : Hid (∀ k, Gr T w8 w9 k → w7.heap.size ≤ k ∧ k < wz.heap.size ∧ ¬ Xz k ∧ ¬ Yz k) := Lib.hid fun k hk => by
                      have h0 := HGT.out k hk
                      have a1 := fz.size
                      exact ⟨h0.1, by omega, fun h => (hXz k h).elim h0.2.2.1 (fun h => by omega), fun h => (hYz k h).elim h0.2.2.2 (fun h => by omega)⟩
                    have HRz := Lib.hid (HROW9.out.keep fz (fun k hk hy => (HGT.out k hk).2.2.2 hy))
                    have HRAz := Lib.hid (HRA9.out.keep fz (fun k hk hy => HTA.out k hk hy))
                    have HTAz : Hid (∀ k, TA k → ¬ Yz k) := Lib.hid fun k hk h => (hYz k h).elim (HTA.out k hk) (fun h => by
                      have a0 := (HT7.out k hk).1
                      have a1 := HSZ.out
                      have a2 := HS8.out
                      have a3 := HS9.out
                      omega)
                    have HSz : Hid (w7.heap.size ≤ wz.heap.size) := Lib.hid (by
                      have a1 := HSZ.out
                      have a2 := HS8.out
                      have a3 := HS9.out
                      have a4 := fz.size
                      omega)
                    rw [show decide ((0 : Int) ≤ (m : Int) - 1 - ((j + 1 : Nat) : Int)) = decide (j + 1 < m) by rw [decide_eq_decide]; omega]
                    clear hCz hXz hYz fz HPV
                    go_wp2_with fail
                    go_roundw
                    case rel => exact ⟨j + 1, Xz, Yz, _, by omega, rfl, HCz.out, HRz.out, HYz.out, HTz.out, HFz.out, HRAz.out, HTAz.out, HSz.out⟩
                    case measure => simp [lenOf]; omega
                  · have d1 : decide (j < m) = false := by rw [decide_eq_false_iff_not]; omega
                    have hjm : j = m := by omega
                    have HR2 : Hid (RowG wr T 49 2 (.slice oa m oc) m (p2sC L.reverse)) := Lib.hid (by
                      have h := HROW.out
                      rw [hjm, List.take_of_length_le (by rw [List.length_reverse, HML.out]; exact Nat.le_refl _)] at h
                      exact h)
                    have HVA := HK.out.valid HCr.out
                    rw [show decide ((0 : Int) ≤ (m : Int) - 1 - (j : Int)) = false by rw [decide_eq_false_iff_not]; omega] at HVA
                    have HVA := Lib.hid HVA
                    rw [hjm] at oc1
                    rw [hjm]
                    obtain ⟨wB, rfl⟩ : ∃ q, q = wr := ⟨_, rfl⟩
                    obtain ⟨xa, rfl⟩ : ∃ q, q = oa := ⟨_, rfl⟩
                    obtain ⟨xc, rfl⟩ : ∃ q, q = oc := ⟨_, rfl⟩
                    clear hjm h1 HROW
                    have d0 : ((m : Int) == (m : Int)) = true := by simp
                    go_wp2_with fail
                    refine HVA.out.mono ?_
                    rintro e wC ⟨rfl, fC⟩
                    have HFC := Lib.hid (HF.out.trans fC)
                    have HA : Hid (InP wC TA ya L) := Lib.hid (by
                      have h := HRA.out.keep fC (fun _ _ h => h)
                      rw [← HML.out] at h
                      obtain ⟨_, _, e, _, _, h3⟩ := h.pairs
                      cases e
                      exact h3)
                    have HB : Hid (InP wC T xa L.reverse) := Lib.hid (by
                      have h := HR2.out.keep fC (fun _ _ h => h)
                      rw [show m = L.reverse.length by rw [List.length_reverse, HML.out]] at h
                      obtain ⟨_, _, e, _, _, h3⟩ := h.pairs
                      cases e
                      exact h3)
                    have HREV : Hid (∀ i, i < m → L.reverse.getD (m - 1 - i) p20 = L.getD i p20) := Lib.hid fun i hi => by
                      have h2 := HML.out
                      rw [getD_of_lt _ _ (by rw [List.length_reverse]; omega), getD_of_lt _ _ (by omega), List.getElem_reverse]
                      congr 1
                      omega
                    clear fC HRA HR2
                    go_wp2_with fail
                    go_loopw [89] (fun i wr => ∃ j : Nat, i = .int .i64 j ∧ j ≤ m ∧ Fr No wC wr) (fun i _ => m - (intOf i).toNat)
                    case atStart => exact ⟨0, rfl, Nat.zero_le _, Fr.refl _ _⟩
                    case round =>
                      obtain ⟨j, rfl, hj, hfr⟩ := hrel
                      have HG := Lib.hid hfr
                      clear hfr
                      by_cases h1 : j < m
                      · have d2 : decide ((j : Int) < (m : Int)) = true := by rw [decide_eq_true_eq]; omega
                        obtain ⟨g, o, _, rfl, hx⟩ := HA.out (by rw [HML.out]; omega)
                        obtain ⟨g', o', _, rfl, hx'⟩ := HB.out (by rw [List.length_reverse, HML.out]; omega)
                        have q0 := HG.out.cell (hx j (by rw [HML.out]; exact h1)).1 (fun h => h)
                        have q1 := HG.out.cell (hx j (by rw [HML.out]; exact h1)).2 (fun h => h)
                        have r0 := HG.out.cell (hx' (m - 1 - j) (by rw [List.length_reverse, HML.out]; omega)).1 (fun h => h)
                        have r1 := HG.out.cell (hx' (m - 1 - j) (by rw [List.length_reverse, HML.out]; omega)).2 (fun h => h)
                        rw [HREV.out j h1] at r0 r1
                        clear hx hx'
                        generalize (L.getD j p20).1 = x at *
                        generalize (L.getD j p20).2 = y at *
                        obtain ⟨u, hu⟩ : ∃ u, m - 1 - j = u := ⟨_, rfl⟩
                        rw [hu] at r0 r1
                        obtain rfl : m = u + 1 + j := by omega
                        clear hu
                        have d3 : (x == x) = true := by simp
                        have d4 : (y == y) = true := by simp
                        have b1 : (0 : Int) ≤ (u : Int) := by omega
                        have b2 : (u : Int) < ((u + 1 + j : Nat) : Int) := by omega
                        have b3 : (j : Int) < ((u + 1 + j : Nat) : Int) := by omega
                        have b4 : ((u + 1 + j : Nat) : Int) - 1 - (j : Int) = (u : Int) := by omega
                        go_wp2_with fail
                        go_region
                        go_wp2_with fail
                        go_roundw
                        case rel => exact ⟨j + 1, by simp, by omega, HG.out.drew⟩
                        case measure => simp [intOf]; omega
                      · have d2 : decide ((j : Int) < (m : Int)) = false := by rw [decide_eq_false_iff_not]; omega
                        have HFE := Lib.hid (HFC.out.trans HG.out)
                        go_wp2_with fail
                        refine (awake_c HM.out _).mono ?_
                        rintro e w8 ⟨rfl, f8⟩
                        have HF8 := Lib.hid (HFE.out.trans f8)
                        clear f8
                        go_wp2_with fail
                        go_ret
                        exact ⟨rfl, FIN.out _ HF8.out⟩
        · as_aux_lemma =>
            rw [if_neg hz] at HNX
            have HNX := Lib.hid HNX
            go_wp2_with fail
            refine wp_region_held_drew (S := fun w' => w'.cell? ⟨w6.heap.size, 0, none⟩ = some (.int .i64 xk) ∧ w'.cell? ⟨w6.heap.size, 1, none⟩ = some (.int .i64 xv)) (by kernel_rfl) ⟨x0, x1⟩ (fun hHeld => ?_)
            refine take_drop (i := 0) (v := ?v0_0) rfl (by kernel_rfl) (by kernel_rfl) (by kernel_rfl) (fun _ _ _ h => h) (Or.inl ⟨by rfl, ?h0_0⟩) hHeld ?r0_0
            case h0_0 => (intro wS hSw; obtain ⟨s0, s1⟩ := hSw; go_simp; all_goals (with_reducible rfl))
            simp only [Act.put, List.setIfInBounds_toArray, List.set_cons_zero, List.set_cons_succ]
            refine wpAnyH_ready (rs := [1]) (by kernel_rfl) (by simp) ?_
            refine do_drop (i := 1) rfl (fun K hK => ?_) AllReadyH.nil
            go_simp
            refine HNX.out.mono ?_
            rintro e w8 ⟨rfl, X8, Y8, hC8, hX8, hY8, f8⟩
            rw [show decide ((0 : Int) ≤ -1) = false by decide]
            have y0 := f8.cell x0 (fun hy => HN5.out _ hy rfl)
            have y1 := f8.cell x1 (fun hy => HN5.out _ hy rfl)
            have HF8 : Hid (Fr No W w8) := Lib.hid (HFD.out.then_ f8 fun k hk hy => absurd (HY5.out k hy) (by omega))
            have HY8 : Hid (∀ k, Y8 k → W.heap.size ≤ k) := Lib.hid fun k hk => (hY8 k hk).elim (HY5.out k) (fun h => Nat.le_trans HFD.out.size h.1)
            have HC8 := Lib.hid hC8
            clear hC8 hX8 hY8 f8
            refine hK.out _ _ ⟨y0, y1⟩ ?_
            clear hK K
            try simp only [Act.put, List.setIfInBounds_toArray, List.set_cons_zero, List.set_cons_succ]
            have hS2 := And.intro y0 y1
            refine take_drop (i := 2) (v := ?v2_0) rfl (by kernel_rfl) (by kernel_rfl) (by kernel_rfl) (fun _ _ _ h => h) (Or.inl ⟨by rfl, ?h2_0⟩) hS2 ?r2_0
            case h2_0 => (intro wS hSw; obtain ⟨s0, s1⟩ := hSw; go_simp; all_goals (with_reducible rfl))
            simp only [Act.put, List.setIfInBounds_toArray, List.set_cons_zero, List.set_cons_succ]
            refine take_drop (i := 3) (v := undef) rfl (by kernel_rfl) (by kernel_rfl) (by kernel_rfl) (fun _ _ _ h => h) (Or.inr ⟨by rfl, rfl⟩) hS2 ?_
            simp only [Act.put, List.setIfInBounds_toArray, List.set_cons_zero, List.set_cons_succ]
            refine take_drop (i := 4) (v := undef) rfl (by kernel_rfl) (by kernel_rfl) (by kernel_rfl) (fun _ _ _ h => h) (Or.inr ⟨by rfl, rfl⟩) hS2 ?_
            simp only [Act.put, List.setIfInBounds_toArray, List.set_cons_zero, List.set_cons_succ]
            refine take_drop (i := 5) (v := undef) rfl (by kernel_rfl) (by kernel_rfl) (by kernel_rfl) (fun _ _ _ h => h) (Or.inr ⟨by rfl, rfl⟩) hS2 ?_
            simp only [Act.put, List.setIfInBounds_toArray, List.set_cons_zero, List.set_cons_succ]
            refine take_drop (i := 6) (v := undef) rfl (by kernel_rfl) (by kernel_rfl) (by kernel_rfl) (fun _ _ _ h => h) (Or.inr ⟨by rfl, rfl⟩) hS2 ?_
            simp only [Act.put, List.setIfInBounds_toArray, List.set_cons_zero, List.set_cons_succ]
            refine take_drop (i := 7) (v := undef) rfl (by kernel_rfl) (by kernel_rfl) (by kernel_rfl) (fun _ _ _ h => h) (Or.inr ⟨by rfl, rfl⟩) hS2 ?_
            simp only [Act.put, List.setIfInBounds_toArray, List.set_cons_zero, List.set_cons_succ]
            refine take_drop (i := 8) (v := undef) rfl (by kernel_rfl) (by kernel_rfl) (by kernel_rfl) (fun _ _ _ h => h) (Or.inr ⟨by rfl, rfl⟩) hS2 ?_
            simp only [Act.put, List.setIfInBounds_toArray, List.set_cons_zero, List.set_cons_succ]
            refine take_drop (i := 9) (v := undef) rfl (by kernel_rfl) (by kernel_rfl) (by kernel_rfl) (fun _ _ _ h => h) (Or.inr ⟨by rfl, rfl⟩) hS2 ?_
            simp only [Act.put, List.setIfInBounds_toArray, List.set_cons_zero, List.set_cons_succ]
            refine take_drop (i := 10) (v := undef) rfl (by kernel_rfl) (by kernel_rfl) (by kernel_rfl) (fun _ _ _ h => h) (Or.inr ⟨by rfl, rfl⟩) hS2 ?_
            simp only [Act.put, List.setIfInBounds_toArray, List.set_cons_zero, List.set_cons_succ]
            refine take_drop (i := 11) (v := undef) rfl (by kernel_rfl) (by kernel_rfl) (by kernel_rfl) (fun _ _ _ h => h) (Or.inr ⟨by rfl, rfl⟩) hS2 ?_
            simp only [Act.put, List.setIfInBounds_toArray, List.set_cons_zero, List.set_cons_succ]
            refine take_drop (i := 12) (v := ?v12_0) rfl (by kernel_rfl) (by kernel_rfl) (by kernel_rfl) (fun _ _ _ h => h) (Or.inl ⟨by rfl, ?h12_0⟩) hS2 ?r12_0
            case h12_0 => (intro wS hSw; obtain ⟨s0, s1⟩ := hSw; go_simp; all_goals (with_reducible rfl))
            simp only [Act.put, List.setIfInBounds_toArray, List.set_cons_zero, List.set_cons_succ]
            refine wpAnyH_done (by kernel_rfl) ?_ _
            clear HC5 HF5 HY5
            have HC5 := HC8
            have HF5 := HF8
            have HY5 := HY8
            clear HC8 HF8 HY8 HCD HFD HSD HN5 HNX HIT HI2 hS2 hHeld x0 x1 y0 y1 hz
            have HFI := Lib.hid (HK.out.first HC5.out)
            go_wp2_with fail
            refine HFI.out.mono ?_
            rintro e w7 ⟨rfl, X7, Y7, hC7, hX7, hY7, f7⟩
            obtain ⟨m, hm0⟩ : ∃ z, L.length = z := ⟨_, rfl⟩
            rw [hm0] at hC7 HLB
            rw [hm0]
            have HML := Lib.hid hm0
            have hmb := HLB.out
            have HC7 : Hid (C w7 c X7 Y7 L (if 0 < m then ((0 : Nat) : Int) else -1)) := Lib.hid (by
              rw [show (if 0 < m then ((0 : Nat) : Int) else -1) = firstI m by unfold firstI; split <;> split <;> omega]
              exact hC7)
            have HY7 : Hid (∀ k, Y7 k → W.heap.size ≤ k) := Lib.hid fun k hk => (hY7 k hk).elim (HY5.out k) (fun h => Nat.le_trans HF5.out.size h.1)
            have HF7 : Hid (Fr No W w7) := Lib.hid (HF5.out.then_ f7 fun k hk hy => absurd (HY5.out k hy) (by omega))
            rw [show decide ((0 : Int) ≤ firstI m) = decide (0 < m) by unfold firstI; rw [decide_eq_decide]; split <;> omega]
            clear hC7 hX7 hY7 f7 hm0 HFI HLB
            go_wp2_with fail
            go_loopw [8, 10] (fun v ok wr => ∃ (j : Nat) (X Y T : Nat → Prop), j ≤ m ∧ ok = .bool (decide (j < m)) ∧ C wr c X Y L (if j < m then (j : Int) else -1) ∧ RowG wr T 49 2 v j (p2sC (L.take j)) ∧ (∀ k, Y k → W.heap.size ≤ k) ∧ (∀ k, T k → W.heap.size ≤ k ∧ k < wr.heap.size ∧ ¬ X k ∧ ¬ Y k) ∧ Fr No W wr) (fun v _ _ => m - lenOf v)
            case atStart => exact ⟨0, X7, Y7, No, Nat.zero_le _, rfl, HC7.out, RowG.nil _ _ _ _, HY7.out, fun k h => h.elim, HF7.out⟩
            case round =>
              obtain ⟨j, X, Y, T, hj, rfl, hC, hrow, hY, hT, hfr⟩ := hrel
              have HCr := Lib.hid hC
              have HYr := Lib.hid hY
              have HTr := Lib.hid hT
              have HF := Lib.hid hfr
              obtain ⟨oa, oc, rfl, oc1, oc2, _, _⟩ := hrow.form
              have HROW := Lib.hid hrow
              clear hC hY hT hfr hrow
              unfold maxLen at oc2
              by_cases h1 : j < m
              · have d1 : decide (j < m) = true := by rw [decide_eq_true_eq]; omega
                have hCj := HCr.out
                rw [if_pos h1] at hCj
                have HCj := Lib.hid hCj
                have HIT := HK.out.item HCj.out
                rw [show itemI L (j : Int) = L.getD j p20 by unfold itemI; rw [if_pos (by omega)]; congr 1] at HIT
                have HTK := Lib.hid (take_p2 L j (by rw [HML.out]; exact h1))
                generalize (L.getD j p20).1 = x at *
                generalize (L.getD j p20).2 = y at *
                have HIT := Lib.hid HIT
                clear hCj
                go_wp2_with fail
                refine HIT.out.mono ?_
                rintro e w8 ⟨rfl, f8⟩
                obtain ⟨v9, w9, hrun, hrow9, f9⟩ := (HROW.out.keep f8 (fun _ _ h => h)).push rowMI (fun q hq => Nat.lt_of_lt_of_le (HTr.out q hq).2.1 f8.size) (p2C (x, y)) rfl (by intro u hu; simp [p2C] at hu; rcases hu with rfl | rfl <;> rfl) (by omega) (by omega)
                obtain ⟨pa, pc, rfl, pc1, pc2, _, _⟩ := hrow9.form
                unfold maxLen at pc2
                have HRUN : Hid ((Builtin.append_ #[27, 27] 27 #[.slice oa j oc, .slice (some ⟨w8.heap.size, 0, none⟩) 1 1]).run Try.prog (w8.alloc (.cells #[.int .i64 x, .int .i64 y] 49)) = .ok (.slice pa (j + 1) pc) w9) := Lib.hid hrun
                have HX : Hid (∀ k, X k → k < wr.heap.size) := Lib.hid fun k hk => HK.out.low HCr.out k (.inl hk)
                have HYl : Hid (∀ k, Y k → k < wr.heap.size) := Lib.hid fun k hk => HK.out.low HCr.out k (.inr hk)
                have HS8 := Lib.hid f8.size
                have HS9 := Lib.hid f9.size
                have HC9 := Lib.hid (HK.out.keep (HK.out.keep HCj.out f8 (fun _ _ h => h)) f9 (fun k hk ht => (HTr.out k ht).2.2.1 hk))
                have HF9 : Hid (Fr No W w9) := Lib.hid ((HF.out.trans f8).then_ f9 fun k hk ht => absurd (HTr.out k ht).1 (by omega))
                have HROW9 : Hid (RowG w9 (Gr T w8 w9) 49 2 (.slice pa (j + 1) pc) (j + 1) (p2sC (L.take (j + 1)))) := Lib.hid (by
                  rw [HTK.out, p2sC_append]
                  exact hrow9)
                have HNX := HK.out.next HC9.out
                rw [HML.out] at HNX
                have HNX := Lib.hid HNX
                have d2 : decide ((1000 : Int) < ((j : Int) + 1)) = false := by rw [decide_eq_false_iff_not]; omega
                clear hrun hrow9 f9 f8
                go_wp2_with (at_builtin; refine wpList_append_run rfl _ _ 27 rfl rfl rfl HRUN.out ?_)
                go_wp2_with fail
                refine HNX.out.mono ?_
                rintro e wz ⟨rfl, Xz, Yz, hCz, hXz, hYz, fz⟩
                have HCz : Hid (C wz c Xz Yz L (if j + 1 < m then ((j + 1 : Nat) : Int) else -1)) := Lib.hid (by
                  rw [← nextI_at]
                  exact hCz)
                have HFz : Hid (Fr No W wz) := Lib.hid (HF9.out.then_ fz fun k hk hy => absurd (HYr.out k hy) (by omega))
                have HYz : Hid (∀ k, Yz k → W.heap.size ≤ k) := Lib.hid fun k hk => (hYz k hk).elim (HYr.out k) (fun h => Nat.le_trans HF9.out.size h.1)
                have HGT : Hid (∀ k, Gr T w8 w9 k → W.heap.size ≤ k ∧ k < w9.heap.size ∧ ¬ X k ∧ ¬ Y k) := Lib.hid fun k hk => by
                  have a1 := HF.out.size
                  have a2 := HS8.out
                  have a3 := HS9.out
                  rcases hk with hk | hk
                  · have := HTr.out k hk
                    exact ⟨this.1, by omega, this.2.2.1, this.2.2.2⟩
                  · exact ⟨by omega, hk.2, fun h => by have := HX.out k h; omega, fun h => by have := HYl.out k h; omega⟩
                have HTz : Hid (∀ k, Gr T w8 w9 k → W.heap.size ≤ k ∧ k < wz.heap.size ∧ ¬ Xz k ∧ ¬ Yz k) := Lib.hid fun k hk => by
                  have h0 := HGT.out k hk
                  have a1 := fz.size
                  exact ⟨h0.1, by omega, fun h => (hXz k h).elim h0.2.2.1 (fun h => by omega), fun h => (hYz k h).elim h0.2.2.2 (fun h => by omega)⟩
                have HRz := Lib.hid (HROW9.out.keep fz (fun k hk hy => (HGT.out k hk).2.2.2 hy))
                rw [nextI_ok]
                clear hCz hXz hYz fz HNX
                go_wp2_with fail
                go_roundw
                case rel => exact ⟨j + 1, Xz, Yz, _, by omega, rfl, HCz.out, HRz.out, HYz.out, HTz.out, HFz.out⟩
                case measure => simp [lenOf]; omega
              · obtain rfl : j = m := by omega
                have d1 : decide (j < j) = false := by simp
                have HR1 : Hid (RowG wr T 49 2 (.slice oa j oc) j (p2sC L)) := Lib.hid (by
                  have h := HROW.out
                  rw [← HML.out, List.take_length, HML.out] at h
                  exact h)
                have hCj := HCr.out
                rw [if_neg h1] at hCj
                have hLA := HK.out.last hCj
                rw [HML.out] at hLA
                have HLA := Lib.hid hLA
                obtain ⟨wA, rfl⟩ : ∃ q, q = wr := ⟨_, rfl⟩
                clear hCj hLA h1 HROW HC7 HY7 HF7
                go_wp2_with fail
                refine HLA.out.mono ?_
                rintro e w7 ⟨rfl, X7, Y7, hC7, hX7, hY7, f7⟩
                have HC7 : Hid (C w7 c X7 Y7 L ((j : Int) - 1 - ((0 : Nat) : Int))) := Lib.hid (by
                  rw [show (j : Int) - 1 - ((0 : Nat) : Int) = (j : Int) - 1 by omega]
                  exact hC7)
                have HY7 : Hid (∀ k, Y7 k → W.heap.size ≤ k) := Lib.hid fun k hk => (hY7 k hk).elim (HYr.out k) (fun h => Nat.le_trans HF.out.size h.1)
                have HF7 : Hid (Fr No W w7) := Lib.hid (HF.out.then_ f7 fun k hk hy => absurd (HYr.out k hy) (by omega))
                have HR7 := Lib.hid (HR1.out.keep f7 (fun k hk hy => (HTr.out k hk).2.2.2 hy))
                have HT7 : Hid (∀ k, T k → k < w7.heap.size ∧ ¬ X7 k ∧ ¬ Y7 k) := Lib.hid fun k hk => by
                  have h0 := HTr.out k hk
                  have a1 := f7.size
                  exact ⟨by omega, fun h => (hX7 k h).elim h0.2.2.1 (fun h => by omega), fun h => (hY7 k h).elim h0.2.2.2 (fun h => by omega)⟩
                have HU7 : Hid (∀ k, T k → W.heap.size ≤ k) := Lib.hid fun k hk => (HTr.out k hk).1
                have HS7 := Lib.hid f7.size
                have HBB : Hid (W.heap.size ≤ w7.heap.size) := Lib.hid HF7.out.size
                rw [show decide ((0 : Int) ≤ (j : Int) - 1) = decide (0 < j) by rw [decide_eq_decide]; omega]
                clear hC7 hX7 hY7 f7 HLA d1
                generalize hJ : j = m at *
                clear hJ
                obtain ⟨TA, rfl⟩ : ∃ q, q = T := ⟨_, rfl⟩
                obtain ⟨ya, rfl⟩ : ∃ q, q = oa := ⟨_, rfl⟩
                obtain ⟨yc, rfl⟩ : ∃ q, q = oc := ⟨_, rfl⟩
                go_wp2_with fail
                go_loopw [9, 11] (fun v ok wr => ∃ (j : Nat) (X Y T : Nat → Prop), j ≤ m ∧ ok = .bool (decide (j < m)) ∧ C wr c X Y L ((m : Int) - 1 - (j : Int)) ∧ RowG wr T 49 2 v j (p2sC (L.reverse.take j)) ∧ (∀ k, Y k → W.heap.size ≤ k) ∧ (∀ k, T k → w7.heap.size ≤ k ∧ k < wr.heap.size ∧ ¬ X k ∧ ¬ Y k) ∧ Fr No W wr ∧ RowG wr TA 49 2 (.slice ya m yc) m (p2sC L) ∧ (∀ k, TA k → ¬ Y k) ∧ w7.heap.size ≤ wr.heap.size) (fun v _ _ => m - lenOf v)
                case atStart => exact ⟨0, X7, Y7, No, Nat.zero_le _, rfl, HC7.out, RowG.nil _ _ _ _, HY7.out, fun k h => h.elim, HF7.out, HR7.out, fun k h => (HT7.out k h).2.2, Nat.le_refl _⟩
                case round =>
                  clear HCr HYr HTr HF HC7 HY7 HF7 HR7
                  obtain ⟨j, X, Y, T, hj, rfl, hC, hrow, hY, hT, hfr, hRA, hTA, hsz⟩ := hrel
                  have HCr := Lib.hid hC
                  have HYr := Lib.hid hY
                  have HTr := Lib.hid hT
                  have HF := Lib.hid hfr
                  have HRA := Lib.hid hRA
                  have HTA := Lib.hid hTA
                  have HSZ := Lib.hid hsz
                  obtain ⟨oa, oc, rfl, oc1, oc2, _, _⟩ := hrow.form
                  have HROW := Lib.hid hrow
                  clear hC hY hT hfr hrow hRA hTA hsz
                  unfold maxLen at oc2
                  by_cases h1 : j < m
                  · have d1 : decide (j < m) = true := by rw [decide_eq_true_eq]; omega
                    have HIT := HK.out.item HCr.out
                    rw [show itemI L ((m : Int) - 1 - (j : Int)) = L.reverse.getD j p20 by
                      have h2 := HML.out
                      unfold itemI
                      rw [if_pos (by omega), show ((m : Int) - 1 - (j : Int)).toNat = m - 1 - j by omega, getD_of_lt _ _ (by omega), getD_of_lt _ _ (by rw [List.length_reverse]; omega), List.getElem_reverse]
                      congr 1
                      omega] at HIT
                    have HTK := Lib.hid (take_p2 L.reverse j (by rw [List.length_reverse, HML.out]; exact h1))
                    generalize (L.reverse.getD j p20).1 = x at *
                    generalize (L.reverse.getD j p20).2 = y at *
                    have HIT := Lib.hid HIT
                    go_wp2_with fail
                    refine HIT.out.mono ?_
                    rintro e w8 ⟨rfl, f8⟩
                    obtain ⟨v9, w9, hrun, hrow9, f9⟩ := (HROW.out.keep f8 (fun _ _ h => h)).push rowMI (fun q hq => Nat.lt_of_lt_of_le (HTr.out q hq).2.1 f8.size) (p2C (x, y)) rfl (by intro u hu; simp [p2C] at hu; rcases hu with rfl | rfl <;> rfl) (by omega) (by omega)
                    obtain ⟨pa, pc, rfl, pc1, pc2, _, _⟩ := hrow9.form
                    unfold maxLen at pc2
                    have HRUN : Hid ((Builtin.append_ #[27, 27] 27 #[.slice oa j oc, .slice (some ⟨w8.heap.size, 0, none⟩) 1 1]).run Try.prog (w8.alloc (.cells #[.int .i64 x, .int .i64 y] 49)) = .ok (.slice pa (j + 1) pc) w9) := Lib.hid hrun
                    have HX : Hid (∀ k, X k → k < wr.heap.size) := Lib.hid fun k hk => HK.out.low HCr.out k (.inl hk)
                    have HYl : Hid (∀ k, Y k → k < wr.heap.size) := Lib.hid fun k hk => HK.out.low HCr.out k (.inr hk)
                    have HS8 := Lib.hid f8.size
                    have HS9 := Lib.hid f9.size
                    have HC9 := Lib.hid (HK.out.keep (HK.out.keep HCr.out f8 (fun _ _ h => h)) f9 (fun k hk ht => (HTr.out k ht).2.2.1 hk))
                    have HF9 : Hid (Fr No W w9) := Lib.hid ((HF.out.trans f8).then_ f9 fun k hk ht => by
                      have a0 := (HTr.out k ht).1
                      have a1 := HBB.out
                      omega)
                    have HRA9 := Lib.hid ((HRA.out.keep f8 (fun _ _ h => h)).keep f9 (fun k hk ht => by
                      have a0 := (HTr.out k ht).1
                      have a1 := (HT7.out k hk).1
                      omega))
                    have HROW9 : Hid (RowG w9 (Gr T w8 w9) 49 2 (.slice pa (j + 1) pc) (j + 1) (p2sC (L.reverse.take (j + 1)))) := Lib.hid (by
                      rw [HTK.out, p2sC_append]
                      exact hrow9)
                    have HPV := HK.out.prev HC9.out
                    rw [show prevI ((m : Int) - 1 - (j : Int)) = (m : Int) - 1 - ((j + 1 : Nat) : Int) by unfold prevI; rw [if_neg (by omega)]; omega] at HPV
                    have HPV := Lib.hid HPV
                    have d2 : decide ((1000 : Int) < ((j : Int) + 1)) = false := by rw [decide_eq_false_iff_not]; omega
                    clear hrun hrow9 f9 f8
                    go_wp2_with (at_builtin; refine wpList_append_run rfl _ _ 27 rfl rfl rfl HRUN.out ?_)
                    go_wp2_with fail
                    refine HPV.out.mono ?_
                    rintro e wz ⟨rfl, Xz, Yz, hCz, hXz, hYz, fz⟩
                    have HCz := Lib.hid hCz
                    have HFz : Hid (Fr No W wz) := Lib.hid (HF9.out.then_ fz fun k hk hy => absurd (HYr.out k hy) (by omega))
                    have HYz : Hid (∀ k, Yz k → W.heap.size ≤ k) := Lib.hid fun k hk => (hYz k hk).elim (HYr.out k) (fun h => Nat.le_trans HF9.out.size h.1)
                    have HGT : Hid (∀ k, Gr T w8 w9 k → w7.heap.size ≤ k ∧ k < w9.heap.size ∧ ¬ X k ∧ ¬ Y k) := Lib.hid fun k hk => by
                      have a1 := HSZ.out
                      have a2 := HS8.out
                      have a3 := HS9.out
                      rcases hk with hk | hk
                      · have := HTr.out k hk
                        exact ⟨this.1, by omega, this.2.2.1, this.2.2.2⟩
                      · exact ⟨by omega, hk.2, fun h => by have := HX.out k h; omega, fun h => by have := HYl.out k h; omega⟩
                    have HTz : Hid (∀ k, Gr T w8 w9 k → w7.heap.size ≤ k ∧ k < wz.heap.size ∧ ¬ Xz k ∧ ¬ Yz k) := Lib.hid fun k hk => by
                      have h0 := HGT.out k hk
                      have a1 := fz.size
                      exact ⟨h0.1, by omega, fun h => (hXz k h).elim h0.2.2.1 (fun h => by omega), fun h => (hYz k h).elim h0.2.2.2 (fun h => by omega)⟩
                    have HRz := Lib.hid (HROW9.out.keep fz (fun k hk hy => (HGT.out k hk).2.2.2 hy))
                    have HRAz := Lib.hid (HRA9.out.keep fz (fun k hk hy => HTA.out k hk hy))
                    have HTAz : Hid (∀ k, TA k → ¬ Yz k) := Lib.hid fun k hk h => (hYz k h).elim (HTA.out k hk) (fun h => by
                      have a0 := (HT7.out k hk).1
                      have a1 := HSZ.out
                      have a2 := HS8.out
                      have a3 := HS9.out
                      omega)
                    have HSz : Hid (w7.heap.size ≤ wz.heap.size) := Lib.hid (by
                      have a1 := HSZ.out
                      have a2 := HS8.out
                      have a3 := HS9.out
                      have a4 := fz.size
                      omega)
                    rw [show decide ((0 : Int) ≤ (m : Int) - 1 - ((j + 1 : Nat) : Int)) = decide (j + 1 < m) by rw [decide_eq_decide]; omega]
                    clear hCz hXz hYz fz HPV
                    go_wp2_with fail
                    go_roundw
                    case rel => exact ⟨j + 1, Xz, Yz, _, by omega, rfl, HCz.out, HRz.out, HYz.out, HTz.out, HFz.out, HRAz.out, HTAz.out, HSz.out⟩
                    case measure => simp [lenOf]; omega
                  · have d1 : decide (j < m) = false := by rw [decide_eq_false_iff_not]; omega
                    have hjm : j = m := by omega
                    have HR2 : Hid (RowG wr T 49 2 (.slice oa m oc) m (p2sC L.reverse)) := Lib.hid (by
                      have h := HROW.out
                      rw [hjm, List.take_of_length_le (by rw [List.length_reverse, HML.out]; exact Nat.le_refl _)] at h
                      exact h)
                    have HVA := HK.out.valid HCr.out
                    rw [show decide ((0 : Int) ≤ (m : Int) - 1 - (j : Int)) = false by rw [decide_eq_false_iff_not]; omega] at HVA
                    have HVA := Lib.hid HVA
                    rw [hjm] at oc1
                    rw [hjm]
                    obtain ⟨wB, rfl⟩ : ∃ q, q = wr := ⟨_, rfl⟩
                    obtain ⟨xa, rfl⟩ : ∃ q, q = oa := ⟨_, rfl⟩
                    obtain ⟨xc, rfl⟩ : ∃ q, q = oc := ⟨_, rfl⟩
                    clear hjm h1 HROW
                    have d0 : ((m : Int) == (m : Int)) = true := by simp
                    go_wp2_with fail
                    refine HVA.out.mono ?_
                    rintro e wC ⟨rfl, fC⟩
                    have HFC := Lib.hid (HF.out.trans fC)
                    have HA : Hid (InP wC TA ya L) := Lib.hid (by
                      have h := HRA.out.keep fC (fun _ _ h => h)
                      rw [← HML.out] at h
                      obtain ⟨_, _, e, _, _, h3⟩ := h.pairs
                      cases e
                      exact h3)
                    have HB : Hid (InP wC T xa L.reverse) := Lib.hid (by
                      have h := HR2.out.keep fC (fun _ _ h => h)
                      rw [show m = L.reverse.length by rw [List.length_reverse, HML.out]] at h
                      obtain ⟨_, _, e, _, _, h3⟩ := h.pairs
                      cases e
                      exact h3)
                    have HREV : Hid (∀ i, i < m → L.reverse.getD (m - 1 - i) p20 = L.getD i p20) := Lib.hid fun i hi => by
                      have h2 := HML.out
                      rw [getD_of_lt _ _ (by rw [List.length_reverse]; omega), getD_of_lt _ _ (by omega), List.getElem_reverse]
                      congr 1
                      omega
                    clear fC HRA HR2
                    go_wp2_with fail
                    go_loopw [89] (fun i wr => ∃ j : Nat, i = .int .i64 j ∧ j ≤ m ∧ Fr No wC wr) (fun i _ => m - (intOf i).toNat)
                    case atStart => exact ⟨0, rfl, Nat.zero_le _, Fr.refl _ _⟩
                    case round =>
                      obtain ⟨j, rfl, hj, hfr⟩ := hrel
                      have HG := Lib.hid hfr
                      clear hfr
                      by_cases h1 : j < m
                      · have d2 : decide ((j : Int) < (m : Int)) = true := by rw [decide_eq_true_eq]; omega
                        obtain ⟨g, o, _, rfl, hx⟩ := HA.out (by rw [HML.out]; omega)
                        obtain ⟨g', o', _, rfl, hx'⟩ := HB.out (by rw [List.length_reverse, HML.out]; omega)
                        have q0 := HG.out.cell (hx j (by rw [HML.out]; exact h1)).1 (fun h => h)
                        have q1 := HG.out.cell (hx j (by rw [HML.out]; exact h1)).2 (fun h => h)
                        have r0 := HG.out.cell (hx' (m - 1 - j) (by rw [List.length_reverse, HML.out]; omega)).1 (fun h => h)
                        have r1 := HG.out.cell (hx' (m - 1 - j) (by rw [List.length_reverse, HML.out]; omega)).2 (fun h => h)
                        rw [HREV.out j h1] at r0 r1
                        clear hx hx'
                        generalize (L.getD j p20).1 = x at *
                        generalize (L.getD j p20).2 = y at *
                        obtain ⟨u, hu⟩ : ∃ u, m - 1 - j = u := ⟨_, rfl⟩
                        rw [hu] at r0 r1
                        obtain rfl : m = u + 1 + j := by omega
                        clear hu
                        have d3 : (x == x) = true := by simp
                        have d4 : (y == y) = true := by simp
                        have b1 : (0 : Int) ≤ (u : Int) := by omega
                        have b2 : (u : Int) < ((u + 1 + j : Nat) : Int) := by omega
                        have b3 : (j : Int) < ((u + 1 + j : Nat) : Int) := by omega
                        have b4 : ((u + 1 + j : Nat) : Int) - 1 - (j : Int) = (u : Int) := by omega
                        go_wp2_with fail
                        go_region
                        go_wp2_with fail
                        go_roundw
                        case rel => exact ⟨j + 1, by simp, by omega, HG.out.drew⟩
                        case measure => simp [intOf]; omega
                      · have d2 : decide ((j : Int) < (m : Int)) = false := by rw [decide_eq_false_iff_not]; omega
                        have HFE := Lib.hid (HFC.out.trans HG.out)
                        go_wp2_with fail
                        refine (awake_c HM.out _).mono ?_
                        rintro e w8 ⟨rfl, f8⟩
                        have HF8 := Lib.hid (HFE.out.trans f8)
                        clear f8
                        go_wp2_with fail
                        go_ret
                        exact ⟨rfl, FIN.out _ HF8.out⟩
end Go.Proofs.Ytkcgdmhggndhfaa
