/-
  Layer 11: MemSplit.
-/
import Derived.Test.YtggjkpgkmohmdaaMeZa
import Derived.Test.YtggjkpgkmohmdaaHeld
namespace Go.Proofs.Ytggjkpgkmohmdaa
set_option linter.unusedVariables false
open Go.RowKit

set_option maxRecDepth 20000 in
set_option maxHeartbeats 6400000 in
theorem msplit_c {D : World → Nat → (Nat → Prop) → Mt → Prop} (H : MemOK D) (w : World) (a : Option Addr) (n cap : Nat) (L : List Bt) (cut at_ : Int)
    (hn : L.length = n) (hcap : n ≤ cap) (hm : cap ≤ maxLen) (hb : Bts w (fun _ => True) a L) (hw : ∀ x ∈ L, BtWf x) (hcu : (Lit.int .i64 cut).wf = true) (hat : (Lit.int .i64 at_).wf = true) :
    Calls Try.prog 7 #[.slice a n cap, .int .i64 cut, .int .i64 at_] w (Ask (.bool true) w) := by
  have HS := Lib.hid (small11_c a cap n L w _ hn (Nat.le_trans hcap hm) hb hw)
  have HH := Lib.hid H
  have HAT := Lib.hid hat
  have HBT := Lib.hid hb.here
  have HBW := Lib.hid hw
  have HN := Lib.hid hn
  have HCAP := Lib.hid (show n ≤ cap ∧ cap ≤ maxLen from ⟨hcap, hm⟩)
  have hcuw := wf_10 hcu
  have HFI : Hid (∀ w', Fr No w w' → small11 L = true → ∀ k, k ≤ n → Calls Try.prog 10 #[.slice a k cap, .slice none 0 0] w' (FillOut D (foldM (L.take k)) w')) := Lib.hid fun w' f hs k hk =>
    fill_c H a k cap (L.take k) none 0 0 [] w' (by rw [List.length_take, hn]; omega) (by have := (small11_yes hs).1; omega) ((hb.here.keep f (fun _ _ h => h) |>.sub fun k h _ => h).take k) (fun x hx => hw x (List.mem_of_mem_take hx)) (fun x hx => ((small11_yes hs).2 x (List.mem_of_mem_take hx)).1) rfl (Nat.le_refl _) (Nat.zero_le _) (fun h => absurd h (by simp))
  have H70 : Hid (small11 L = true → n ≤ 30 ∧ ∀ x ∈ L, x.l.length ≤ 70) := Lib.hid fun hs => ⟨by have := (small11_yes hs).1; omega, fun x hx => ((small11_yes hs).2 x hx).1⟩
  have AW := Lib.hid (fun w' => awake11_c H w')
  clear H hn hb hw hat hcu
  go_enter Try.func7, Try.ntmps7
  go_wp2_with fail
  refine (show Calls _ _ _ _ _ from HS.out).mono ?_
  rintro e w1 ⟨rfl, hf1⟩
  have HF1 := Lib.hid hf1
  clear hf1
  cases hs : small11 L with
  | false =>
    go_wp2_with fail
    refine (show Calls _ _ _ _ _ from AW.out _).mono ?_
    rintro e w2 ⟨rfl, hf2⟩
    have HF2 := Lib.hid (HF1.out.trans hf2)
    clear hf2
    go_wp2_with fail
    go_ret
    exact ⟨rfl, HF2.out⟩
  | true =>
    have HSS := Lib.hid hs
    obtain ⟨hn30, h70⟩ := H70.out hs
    have H70 := Lib.hid h70
    clear hs h70
    by_cases hc0 : cut < 0
    · go_wp2_with fail
      refine (show Calls _ _ _ _ _ from AW.out _).mono ?_
      rintro e w2 ⟨rfl, hf2⟩
      have HF2 := Lib.hid (HF1.out.trans hf2)
      clear hf2
      go_wp2_with fail
      go_ret
      exact ⟨rfl, HF2.out⟩
    · obtain ⟨c, rfl⟩ : ∃ c : Nat, cut = (c : Int) := ⟨cut.toNat, by omega⟩
      by_cases hcn : (n : Int) < (c : Int)
      · go_wp2_with fail
        refine (show Calls _ _ _ _ _ from AW.out _).mono ?_
        rintro e w2 ⟨rfl, hf2⟩
        have HF2 := Lib.hid (HF1.out.trans hf2)
        clear hf2
        go_wp2_with fail
        go_ret
        exact ⟨rfl, HF2.out⟩
      · have HC1 := Lib.hid (HFI.out w1 HF1.out HSS.out n (Nat.le_refl _))
        have htk : L.take n = L := List.take_of_length_le (by rw [HN.out]; exact Nat.le_refl _)
        rw [htk] at HC1
        have hcc : (c : Int) ≤ (n : Int) := by omega
        go_wp2_with fail
        refine (show Calls _ _ _ _ _ from HC1.out).mono ?_
        rintro e w2 ⟨t1, F1, xa, xc, rfl, hD, hF, hE, hx1, hx2, hf2⟩
        have HF2 := Lib.hid (HF1.out.trans hf2)
        have HD2 := Lib.hid hD
        have HE2 := Lib.hid hE
        have HX := Lib.hid (show (foldM L).es.length ≤ xc ∧ xc ≤ maxLen from ⟨hx1, hx2⟩)
        have HC2 := Lib.hid (HFI.out w2 HF2.out HSS.out c (by omega))
        have hcut := cutB_hi a n cap c (by omega) w2
        clear hD hF hE hf2 HC1 htk hx1 hx2
        go_wp2_with fail
        refine (show Calls _ _ _ _ _ from HC2.out).mono ?_
        rintro e w3 ⟨t2, F2, xa2, xc2, rfl, hD, hF, _, _, _, hf3⟩
        have HF3 := Lib.hid (HF2.out.trans hf3)
        have HD3 := Lib.hid (HH.out.keep HD2.out hf3 (fun _ _ h => h))
        have HE3 := Lib.hid (HE2.out.keep hf3 (fun _ _ h => h))
        have HO3 := Lib.hid hD
        have HC3 := Lib.hid (HH.out.new w3)
        clear hD hF hf3 HC2 hcut
        go_wp2_with fail
        refine (show Calls _ _ _ _ _ from HC3.out).mono ?_
        rintro e w4 ⟨t3, F3, rfl, hY, hFY, hf4⟩
        obtain ⟨mo, hmo⟩ : ∃ mo, foldM (L.take c) = mo := ⟨_, rfl⟩
        rw [hmo] at HO3
        obtain ⟨ma, hma⟩ : ∃ ma, foldM L = ma := ⟨_, rfl⟩
        have HSP : Hid (Split ma ((L.drop c).foldl (youngM mo) newMt) mo) := Lib.hid (by
          have hgl := (foldM_good (L.take c) fun b hb => H70.out b (List.mem_of_mem_take hb)).last.1
          have := foldM_split (L.take c) (L.drop c) hgl
          rw [List.take_append_drop, hmo, hma] at this
          exact this)
        have HGA : Hid (∀ x ∈ ma.es, EntGood x) := Lib.hid (by rw [← hma]; exact (foldM_good L H70.out).ent)
        have HLA : Hid (ma.es.length ≤ 2100) := Lib.hid (by rw [← hma]; have := (foldM_good L H70.out).len; rw [HN.out] at this; omega)
        have HLO : Hid (mo.es.length ≤ 2100) := Lib.hid (by rw [← hmo]; have := (foldM_good (L.take c) fun b hb => H70.out b (List.mem_of_mem_take hb)).len; rw [List.length_take, HN.out] at this; omega)
        rw [hma] at HD3 HE3 HX ⊢
        have HF4 := Lib.hid hf4
        obtain ⟨M, hM⟩ : ∃ M, L.drop c = M := ⟨_, rfl⟩
        rw [hM] at HSP
        have HBM : Hid (Bts w3 (fun k => k < w3.heap.size) (cutB a c cap) M) := Lib.hid (by
          have := ((HBT.out.keep HF3.out (fun _ _ h => h)).sub (T := fun k => k < w3.heap.size) fun k _ h => Nat.lt_of_lt_of_le h HF3.out.size).drop c cap (by rw [HN.out]; exact HCAP.out.1)
          rw [hM] at this
          exact this)
        have HML : Hid (M.length = n - c) := Lib.hid (by rw [← hM, List.length_drop, HN.out])
        have HMW : Hid (∀ x ∈ M, BtWf x ∧ x.l.length ≤ 70) := Lib.hid fun x hx => by
          rw [← hM] at hx
          exact ⟨HBW.out x (List.mem_of_mem_drop hx), H70.out x (List.mem_of_mem_drop hx)⟩
        have START : Hid (∃ F, D w4 t3 F ((M.take 0).foldl (youngM mo) newMt) ∧ (∀ k, F k → w3.heap.size ≤ k)) := Lib.hid ⟨F3, hY, hFY⟩
        have hcut := cutB_lo a n cap c (by omega) w4
        obtain ⟨ca, hca⟩ : ∃ ca, cutB a c cap = ca := ⟨_, rfl⟩
        rw [hca] at HBM hcut
        obtain ⟨mn, hmn⟩ : ∃ mn, n - c = mn := ⟨_, rfl⟩
        obtain ⟨mc, hmc⟩ : ∃ mc, cap - c = mc := ⟨_, rfl⟩
        rw [hmn] at HML hcut
        rw [hmc] at hcut
        have hmn30 : mn ≤ 30 := by omega
        clear hY hFY hf4 hmo hma hM hca hmn hmc HC3
        go_wp2_with fail
        go_loopw [62] (fun i wr => ∃ j : Nat, i = .int .i64 (j : Int) ∧ j ≤ mn ∧ (∃ F, D wr t3 F ((M.take j).foldl (youngM mo) newMt) ∧ (∀ k, F k → w3.heap.size ≤ k)) ∧ Fr No w3 wr) (fun i _ => mn - (intOf i).toNat)
        case atStart => exact ⟨0, rfl, Nat.zero_le _, START.out, HF4.out⟩
        case round =>
          obtain ⟨j, rfl, hj, ⟨F, hD, hF⟩, hfr⟩ := hrel
          have HFR := Lib.hid hfr
          have hjlen : ((M.take j).foldl (youngM mo) newMt).es.length ≤ 2100 := by
            have h1 := youngs_len mo (M.take j) newMt fun b hb => (HMW.out b (List.mem_of_mem_take hb)).2
            rw [List.length_take, HML.out] at h1
            have h2 : newMt.es.length = 0 := rfl
            omega
          by_cases hlt : j < mn
          · have hjl : j < M.length := by rw [HML.out]; exact hlt
            have HNX : Hid ((M.take (j + 1)).foldl (youngM mo) newMt = youngM mo ((M.take j).foldl (youngM mo) newMt) (M.getD j bt0)) := Lib.hid (by
              rw [List.take_add_one, List.getElem?_eq_getElem hjl, getD_bt M j hjl, Option.toList_some, List.foldl_append]
              rfl)
            obtain ⟨my, hmy⟩ : ∃ my, (M.take j).foldl (youngM mo) newMt = my := ⟨_, rfl⟩
            rw [hmy] at hD hjlen HNX
            obtain ⟨b, o, hbb, rfl, hxs⟩ := HBM.out (by omega)
            have hx := hxs j hjl
            have hbw := (HMW.out _ (getD_memB M j hjl)).1
            have hx70 := (HMW.out _ (getD_memB M j hjl)).2
            obtain ⟨x, hx0⟩ : ∃ x, M.getD j bt0 = x := ⟨_, rfl⟩
            rw [hx0] at hx hbw hx70 HNX
            obtain ⟨c0, c1, hops⟩ := hx
            have c0 := hfr.cell c0 (fun h => h)
            have c1 := hfr.cell c1 (fun h => h)
            obtain ⟨hq, hlc, hcm, how⟩ := hbw
            obtain ⟨W3, hW3, hf3, t0, t1⟩ := box_batch wr x.q (.slice x.a x.l.length x.c)
            have HW3 := Lib.hid hW3
            have HF3' := Lib.hid (hfr.trans hf3)
            have HCH := Lib.hid (fun w' (f : Fr No W3 w') => bcheck_c x.q x.a x.c x.l w' _ hq hlc hcm (hops.keep (HF3'.out.trans f) (fun _ _ h => h)) how)
            have HLY := Lib.hid (fun w' (f : Fr No W3 w') => HH.out.last w' t3 F my (HH.out.keep hD (hf3.trans f) (fun _ _ h => h)))
            have HLO2 := Lib.hid (fun w' (f : Fr No W3 w') => HH.out.last w' t2 F2 mo (HH.out.keep HO3.out (HF3'.out.trans f) (fun _ _ h => h)))
            have HAP : Hid (∀ w4, Fr No W3 w4 → Calls Try.prog 19 #[.pointer (some ⟨t3, 0, none⟩), .agg #[.int .i64 x.q, .slice x.a x.l.length x.c], .slice none 0 0] w4 (MovM D t3 F (applyM my x.q x.l) (.int .i64 (applyE my x.q x.l)) w4)) := Lib.hid fun w4 f =>
              HH.out.apply w4 t3 F my x.q x.a x.l.length x.c x.l (fun k => k < w3.heap.size) none 0 0 [] (HH.out.keep hD (hf3.trans f) (fun _ _ h => h)) (by omega) hq rfl hlc hcm (hops.keep (HF3'.out.trans f) (fun _ _ h => h)) (fun k hk h => by have := hF k h; omega) how rfl (Nat.le_refl _) (Nat.zero_le _) (fun h => absurd h (by simp)) (fun b o h _ => by cases h)
            have HFF := Lib.hid hF
            have HSTAY : Hid (youngM mo my x = my → ∀ w', Fr No W3 w' → ∃ F, D w' t3 F ((M.take (j + 1)).foldl (youngM mo) newMt) ∧ (∀ k, F k → w3.heap.size ≤ k)) := Lib.hid fun h w' f => ⟨F, by rw [HNX.out, h]; exact HH.out.keep hD (hf3.trans f) (fun _ _ h => h), hF⟩
            obtain ⟨T, hT⟩ : ∃ T, wr.heap.size = T := ⟨_, rfl⟩
            rw [hT] at t0 t1
            have HT := Lib.hid hT
            obtain ⟨nl, hnl⟩ : ∃ nl, x.l.length = nl := ⟨_, rfl⟩
            rw [hnl] at HAP HCH HW3 c1 t1 hx70
            obtain ⟨yl, hyl⟩ : ∃ yl, my.last = yl := ⟨_, rfl⟩
            obtain ⟨ol, hol⟩ : ∃ ol, mo.last = ol := ⟨_, rfl⟩
            rw [hyl] at HLY
            rw [hol] at HLO2
            obtain ⟨mx, hmx⟩ : ∃ mx, (if yl < ol then ol else yl) = mx := ⟨_, rfl⟩
            have hmax : max yl ol = mx := by
              rw [← hmx]
              split <;> omega
            have HYM : Hid (youngM mo my x = if allO x.q x.l = true ∧ mx < x.q then applyM my x.q x.l else my) := Lib.hid (by unfold youngM; rw [hyl, hol, hmax])
            clear hmax hmy hD hF hfr hx0 hxs hops hq hlc hcm how hW3 hf3 hT hnl hyl hol hjlen hbb
            have e100 : ((100 : Int) == (0 : Int)) = false := by decide
            have e0 : ((0 : Int) == (0 : Int)) = true := by decide
            cases ha : allO x.q x.l with
            | false => as_aux_lemma =>
              rw [ha, show errO false = .int .i64 100 from rfl] at HCH
              have HY : Hid (youngM mo my x = my) := Lib.hid (by rw [HYM.out, ha]; simp)
              clear ha
              go_wp2_with fail
              rw [HW3.out, HT.out]
              have hfx := (Fr.refl No W3).drew
              refine wp_region_held_drew (S := fun w' => w'.cell? ⟨T, 0, none⟩ = some (.int .i64 x.q) ∧ w'.cell? ⟨T, 1, none⟩ = some (.slice x.a nl x.c)) (by kernel_rfl) ⟨t0, t1⟩ (fun hHeld => ?_)
              refine take_drop (i := 0) (v := ?v0_101) rfl (by kernel_rfl) (by kernel_rfl) (by kernel_rfl) (fun _ _ _ h => h) (Or.inl ⟨by rfl, ?h0_101⟩) hHeld ?r0_101
              case h0_101 => (intro wS hSw; obtain ⟨s0, s1⟩ := hSw; go_simp; all_goals (with_reducible rfl))
              simp only [Act.put, List.setIfInBounds_toArray, List.set_cons_zero, List.set_cons_succ]
              refine wpAnyH_ready (rs := [1]) (by kernel_rfl) (by simp) ?_
              refine do_drop (i := 1) rfl (fun K hK => ?_) AllReadyH.nil
              go_simp
              refine (HCH.out _ hfx).mono ?_
              rintro e w7 ⟨rfl, hf6⟩
              have t0 := hf6.cell (p := ⟨T, 0, none⟩) t0 (fun h => h)
              have t1 := hf6.cell (p := ⟨T, 1, none⟩) t1 (fun h => h)
              have hfx := hfx.trans hf6
              clear hf6
              refine hK.out _ _ ⟨t0, t1⟩ ?_
              clear hK K
              try simp only [Act.put, List.setIfInBounds_toArray, List.set_cons_zero, List.set_cons_succ]
              refine take_drop (i := 2) (v := ?v2_102) rfl (by kernel_rfl) (by kernel_rfl) (by kernel_rfl) (fun _ _ _ h => h) (Or.inl ⟨by rfl, ?h2_102⟩) ⟨t0, t1⟩ ?r2_102
              case h2_102 => (intro wS hSw; go_simp; all_goals (with_reducible rfl))
              simp only [Act.put, List.setIfInBounds_toArray, List.set_cons_zero, List.set_cons_succ]
              refine take_drop (i := 3) (v := ?v3_103) rfl (by kernel_rfl) (by kernel_rfl) (by kernel_rfl) (fun _ _ _ h => h) (Or.inl ⟨by rfl, ?h3_103⟩) ⟨t0, t1⟩ ?r3_103
              case h3_103 => (intro wS hSw; go_simp; all_goals (with_reducible rfl))
              simp only [Act.put, List.setIfInBounds_toArray, List.set_cons_zero, List.set_cons_succ]
              refine take_drop (i := 4) (v := undef) rfl (by kernel_rfl) (by kernel_rfl) (by kernel_rfl) (fun _ _ _ h => h) (Or.inr ⟨by rfl, rfl⟩) ⟨t0, t1⟩ ?_
              simp only [Act.put, List.setIfInBounds_toArray, List.set_cons_zero, List.set_cons_succ]
              refine take_drop (i := 5) (v := undef) rfl (by kernel_rfl) (by kernel_rfl) (by kernel_rfl) (fun _ _ _ h => h) (Or.inr ⟨by rfl, rfl⟩) ⟨t0, t1⟩ ?_
              simp only [Act.put, List.setIfInBounds_toArray, List.set_cons_zero, List.set_cons_succ]
              refine take_drop (i := 6) (v := undef) rfl (by kernel_rfl) (by kernel_rfl) (by kernel_rfl) (fun _ _ _ h => h) (Or.inr ⟨by rfl, rfl⟩) ⟨t0, t1⟩ ?_
              simp only [Act.put, List.setIfInBounds_toArray, List.set_cons_zero, List.set_cons_succ]
              refine take_drop (i := 7) (v := undef) rfl (by kernel_rfl) (by kernel_rfl) (by kernel_rfl) (fun _ _ _ h => h) (Or.inr ⟨by rfl, rfl⟩) ⟨t0, t1⟩ ?_
              simp only [Act.put, List.setIfInBounds_toArray, List.set_cons_zero, List.set_cons_succ]
              refine take_drop (i := 8) (v := undef) rfl (by kernel_rfl) (by kernel_rfl) (by kernel_rfl) (fun _ _ _ h => h) (Or.inr ⟨by rfl, rfl⟩) ⟨t0, t1⟩ ?_
              simp only [Act.put, List.setIfInBounds_toArray, List.set_cons_zero, List.set_cons_succ]
              refine take_drop (i := 9) (v := undef) rfl (by kernel_rfl) (by kernel_rfl) (by kernel_rfl) (fun _ _ _ h => h) (Or.inr ⟨by rfl, rfl⟩) ⟨t0, t1⟩ ?_
              simp only [Act.put, List.setIfInBounds_toArray, List.set_cons_zero, List.set_cons_succ]
              refine take_drop (i := 10) (v := undef) rfl (by kernel_rfl) (by kernel_rfl) (by kernel_rfl) (fun _ _ _ h => h) (Or.inr ⟨by rfl, rfl⟩) ⟨t0, t1⟩ ?_
              simp only [Act.put, List.setIfInBounds_toArray, List.set_cons_zero, List.set_cons_succ]
              refine take_drop (i := 11) (v := undef) rfl (by kernel_rfl) (by kernel_rfl) (by kernel_rfl) (fun _ _ _ h => h) (Or.inr ⟨by rfl, rfl⟩) ⟨t0, t1⟩ ?_
              simp only [Act.put, List.setIfInBounds_toArray, List.set_cons_zero, List.set_cons_succ]
              refine take_drop (i := 12) (v := ?v12_104) rfl (by kernel_rfl) (by kernel_rfl) (by kernel_rfl) (fun _ _ _ h => h) (Or.inl ⟨by rfl, ?h12_104⟩) ⟨t0, t1⟩ ?r12_104
              case h12_104 => (intro wS hSw; go_simp; all_goals (with_reducible rfl))
              simp only [Act.put, List.setIfInBounds_toArray, List.set_cons_zero, List.set_cons_succ]
              refine wpAnyH_done (by kernel_rfl) ?_ _
              have HFX := Lib.hid hfx
              clear hfx
              go_wp2_with fail
              go_roundw
              case rel => exact ⟨j + 1, by simp, by omega, HSTAY.out HY.out _ HFX.out, HF3'.out.trans HFX.out⟩
              case measure => simp [intOf]; omega
            | true =>
              rw [ha, show errO true = .int .i64 0 from rfl] at HCH
              by_cases hqm : mx < x.q
              · as_aux_lemma =>
                have d1 : decide (mx < x.q) = true := decide_eq_true hqm
                have HY : Hid (youngM mo my x = applyM my x.q x.l) := Lib.hid (by rw [HYM.out, if_pos ⟨ha, hqm⟩])
                clear ha hqm
                go_wp2_with fail
                rw [HW3.out, HT.out]
                have hfx := (Fr.refl No W3).drew
                go_region_held3 (fun w' => w'.cell? ⟨T, 0, none⟩ = some (.int .i64 x.q) ∧ w'.cell? ⟨T, 1, none⟩ = some (.slice x.a nl x.c)) (first | assumption | go_keep)
                  (first
                    | (go_at_call 22; (with_reducible refine (HCH.out _ hfx).mono ?_); intro e w7 hret; obtain ⟨rfl, hf6⟩ := hret
                       have t0 := hf6.cell (p := ⟨T, 0, none⟩) t0 (fun h => h)
                       have t1 := hf6.cell (p := ⟨T, 1, none⟩) t1 (fun h => h)
                       have hfx := hfx.trans hf6
                       clear hf6)
                    | (go_at_call 23; (with_reducible refine (HLY.out _ hfx).mono ?_); intro e w8 hret; obtain ⟨rfl, hf6⟩ := hret
                       have t0 := hf6.cell (p := ⟨T, 0, none⟩) t0 (fun h => h)
                       have t1 := hf6.cell (p := ⟨T, 1, none⟩) t1 (fun h => h)
                       have hfx := hfx.trans hf6
                       clear hf6)
                    | (go_at_call 23; (with_reducible refine (HLO2.out _ hfx).mono ?_); intro e w9 hret; obtain ⟨rfl, hf6⟩ := hret
                       have t0 := hf6.cell (p := ⟨T, 0, none⟩) t0 (fun h => h)
                       have t1 := hf6.cell (p := ⟨T, 1, none⟩) t1 (fun h => h)
                       have hfx := hfx.trans hf6
                       clear hf6))
                have HFX := Lib.hid hfx
                have HAQ := Lib.hid (HAP.out w9 hfx)
                clear hfx
                go_wp2_with fail
                refine (show Calls _ _ _ _ _ from HAQ.out).mono ?_
                rintro e w10 ⟨rfl, F', hD', hF', hf10⟩
                have HST2 : Hid (∃ F, D w10 t3 F ((M.take (j + 1)).foldl (youngM mo) newMt) ∧ (∀ k, F k → w3.heap.size ≤ k)) := Lib.hid ⟨F', by rw [HNX.out, HY.out]; exact hD', fun k hk => (hF' k hk).elim (HFF.out k) fun h => Nat.le_trans (HF3'.out.trans HFX.out).size h⟩
                have HFT : Hid (Fr No w3 w10) := Lib.hid ((HF3'.out.trans HFX.out).then_ hf10 fun k hk h => by have := HFF.out k h; omega)
                clear hD' hF' hf10
                go_wp2_with fail
                go_roundw
                case rel => exact ⟨j + 1, by simp, by omega, HST2.out, HFT.out⟩
                case measure => simp [intOf]; omega
              · as_aux_lemma =>
                have d1 : decide (mx < x.q) = false := decide_eq_false hqm
                have HY : Hid (youngM mo my x = my) := Lib.hid (by rw [HYM.out, if_neg (fun h => hqm h.2)])
                clear ha hqm
                go_wp2_with fail
                rw [HW3.out, HT.out]
                have hfx := (Fr.refl No W3).drew
                go_region_held3 (fun w' => w'.cell? ⟨T, 0, none⟩ = some (.int .i64 x.q) ∧ w'.cell? ⟨T, 1, none⟩ = some (.slice x.a nl x.c)) (first | assumption | go_keep)
                  (first
                    | (go_at_call 22; (with_reducible refine (HCH.out _ hfx).mono ?_); intro e w7 hret; obtain ⟨rfl, hf6⟩ := hret
                       have t0 := hf6.cell (p := ⟨T, 0, none⟩) t0 (fun h => h)
                       have t1 := hf6.cell (p := ⟨T, 1, none⟩) t1 (fun h => h)
                       have hfx := hfx.trans hf6
                       clear hf6)
                    | (go_at_call 23; (with_reducible refine (HLY.out _ hfx).mono ?_); intro e w8 hret; obtain ⟨rfl, hf6⟩ := hret
                       have t0 := hf6.cell (p := ⟨T, 0, none⟩) t0 (fun h => h)
                       have t1 := hf6.cell (p := ⟨T, 1, none⟩) t1 (fun h => h)
                       have hfx := hfx.trans hf6
                       clear hf6)
                    | (go_at_call 23; (with_reducible refine (HLO2.out _ hfx).mono ?_); intro e w9 hret; obtain ⟨rfl, hf6⟩ := hret
                       have t0 := hf6.cell (p := ⟨T, 0, none⟩) t0 (fun h => h)
                       have t1 := hf6.cell (p := ⟨T, 1, none⟩) t1 (fun h => h)
                       have hfx := hfx.trans hf6
                       clear hf6))
                have HFX := Lib.hid hfx
                clear hfx
                go_wp2_with fail
                go_roundw
                case rel => exact ⟨j + 1, by simp, by omega, HSTAY.out HY.out _ HFX.out, HF3'.out.trans HFX.out⟩
                case measure => simp [intOf]; omega
          · as_aux_lemma =>
            have htk : M.take j = M := List.take_of_length_le (by rw [HML.out]; omega)
            rw [htk] at hD
            obtain ⟨my, hmy⟩ : ∃ my, M.foldl (youngM mo) newMt = my := ⟨_, rfl⟩
            rw [hmy] at hD HSP
            have hylen : my.es.length ≤ 2100 := by
              have h1 := youngs_len mo M newMt fun b hb => (HMW.out b hb).2
              rw [HML.out, hmy] at h1
              have h2 : newMt.es.length = 0 := rfl
              omega
            have HYL := Lib.hid hylen
            have HGA1 := Lib.hid (fun w' (f : Fr No wr w') (u : ByteArray) (hu : u.size ≤ maxLen) => HH.out.get w' t1 F1 ma u at_ (HH.out.keep HD3.out (hfr.trans f) (fun _ _ h => h)) (by have := HLA.out; omega) hu HAT.out)
            have HGY1 := Lib.hid (fun w' (f : Fr No wr w') (u : ByteArray) (hu : u.size ≤ maxLen) => HH.out.get w' t3 F my u at_ (HH.out.keep hD f (fun _ _ h => h)) (by omega) hu HAT.out)
            have HGO1 := Lib.hid (fun w' (f : Fr No wr w') (u : ByteArray) (hu : u.size ≤ maxLen) => HH.out.get w' t2 F2 mo u at_ (HH.out.keep HO3.out (hfr.trans f) (fun _ _ h => h)) (by have := HLO.out; omega) hu HAT.out)
            have HLNA := Lib.hid (fun w' (f : Fr No wr w') => HH.out.len w' t1 F1 ma (HH.out.keep HD3.out (hfr.trans f) (fun _ _ h => h)))
            have HLNY := Lib.hid (fun w' (f : Fr No wr w') => HH.out.len w' t3 F my (HH.out.keep hD f (fun _ _ h => h)))
            have HLNO := Lib.hid (fun w' (f : Fr No wr w') => HH.out.len w' t2 F2 mo (HH.out.keep HO3.out (hfr.trans f) (fun _ _ h => h)))
            have HEr := Lib.hid (HE3.out.keep hfr (fun _ _ h => h))
            obtain ⟨N, hN⟩ : ∃ N, ma.es.length = N := ⟨_, rfl⟩
            have HNN := Lib.hid hN
            have HLL := Lib.hid HSP.out.len
            obtain ⟨ny, hny⟩ : ∃ ny, my.es.length = ny := ⟨_, rfl⟩
            obtain ⟨no, hno⟩ : ∃ no, mo.es.length = no := ⟨_, rfl⟩
            rw [hN] at HLL HLNA ⊢
            rw [hny] at HLL HLNY
            rw [hno] at HLL HLNO
            have hN21 : N ≤ 2100 := by have := HLA.out; omega
            clear hmy hylen hD hF hfr htk hny hno hN
            go_wp2_with fail
            obtain ⟨wr0, hwr0⟩ : ∃ w0, wr = w0 := ⟨_, rfl⟩
            go_loopw [85] (fun i wq => ∃ j : Nat, i = .int .i64 (j : Int) ∧ j ≤ N ∧ Fr No wr0 wq) (fun i _ => N - (intOf i).toNat)
            case atStart => exact ⟨0, rfl, Nat.zero_le _, by rw [hwr0]; exact Fr.refl _ _⟩
            case round =>
              obtain ⟨j2, rfl, hj2, hfr⟩ := hrel
              subst hwr0
              have HFR2 := Lib.hid hfr
              by_cases hlt2 : j2 < N
              · have hjl : j2 < ma.es.length := by rw [HNN.out]; exact hlt2
                obtain ⟨b, o, _, rfl, hxs⟩ := HEr.out (by omega)
                have hy := (hxs j2 hjl).keep hfr (fun h => h)
                have hym := getD_memE ma.es j2 hjl
                obtain ⟨y, hy0⟩ : ∃ y, ma.es.getD j2 ent0 = y := ⟨_, rfl⟩
                rw [hy0] at hy hym
                have HYS := Lib.hid (HGA.out y hym).wf.1
                obtain ⟨c0, c1, c2, c3⟩ := hy
                obtain ⟨W5, hW5, hf5, hat5⟩ := box_ent wr y 41
                have p0 := hat5.c0
                have HW5 := Lib.hid hW5
                have HF5 := Lib.hid (hfr.trans hf5)
                have HC5 := Lib.hid (HGA1.out W5 HF5.out y.u HYS.out)
                have hsg := split_get HSP.out y.u at_
                obtain ⟨Ga, hGa⟩ : ∃ G, getE ma.es y.u at_ = G := ⟨_, rfl⟩
                obtain ⟨Gy, hGy⟩ : ∃ G, getE my.es y.u at_ = G := ⟨_, rfl⟩
                obtain ⟨Go, hGo⟩ : ∃ G, getE mo.es y.u at_ = G := ⟨_, rfl⟩
                have HCY : Hid (∀ w', Fr No W5 w' → Calls Try.prog 13 #[.pointer (some ⟨t3, 0, none⟩), .string y.u, .int .i64 at_] w' (Ask (.tuple #[entV (entAt my Gy), .bool (decide (0 ≤ Gy))]) w')) := Lib.hid fun w' f => by
                  have := HGY1.out w' (HF5.out.trans f) y.u HYS.out
                  rw [hGy] at this
                  exact this
                have HCO : Hid (∀ w', Fr No W5 w' → Calls Try.prog 13 #[.pointer (some ⟨t2, 0, none⟩), .string y.u, .int .i64 at_] w' (Ask (.tuple #[entV (entAt mo Go), .bool (decide (0 ≤ Go))]) w')) := Lib.hid fun w' f => by
                  have := HGO1.out w' (HF5.out.trans f) y.u HYS.out
                  rw [hGo] at this
                  exact this
                rw [hGa] at HC5 hsg
                rw [hGy, hGo] at hsg
                have HSG := Lib.hid hsg
                obtain ⟨x, hx⟩ : ∃ x, entAt ma Ga = x := ⟨_, rfl⟩
                obtain ⟨bb, hbb⟩ : ∃ bb, decide (0 ≤ Ga) = bb := ⟨_, rfl⟩
                rw [hx, hbb] at HC5
                have HX := Lib.hid hx
                have HBB := Lib.hid hbb
                have e0 : (x.u.toList == x.u.toList) = true := beq_self_eq_true _
                have e1 : (x.q == x.q) = true := beq_self_eq_true _
                have e2 : (x.k == x.k) = true := beq_self_eq_true _
                have e3 : (x.val.toList == x.val.toList) = true := beq_self_eq_true _
                have dbb : (bb != bb) = false := by simp
                clear hxs hym hfr hy0 hW5 hf5 hat5 hGa hGy hGo hsg hx hbb
                go_wp2_with fail
                rw [HW5.out]
                refine (show Calls _ _ _ _ _ from HC5.out).mono ?_
                rintro e w6 ⟨rfl, hf6⟩
                have p0 := hf6.cell p0 (fun h => h)
                obtain ⟨W7, hW7, hf7, hat7⟩ := box_ent w6 x 39
                obtain ⟨T1, hT1⟩ : ∃ T, w6.heap.size = T := ⟨_, rfl⟩
                rw [hT1] at hat7
                obtain ⟨q0, q1, q2, q3⟩ := hat7
                have HW7 := Lib.hid hW7
                have HT1 := Lib.hid hT1
                have hT1l : T1 < W7.heap.size := cell_block q0
                have HF7 := Lib.hid (hf6.trans hf7)
                have HC7 := Lib.hid (HCY.out W7 HF7.out)
                have HF57 := Lib.hid (HF5.out.trans HF7.out)
                clear hW7 hT1 hf6 hf7 HC5 c0 c1 c2 c3 p0
                unfold entV
                go_wp2_with fail
                rw [HW7.out, HT1.out]
                refine (show Calls _ _ _ _ _ from HC7.out).mono ?_
                rintro e w8 ⟨rfl, hf8⟩
                have HSZ8 := Lib.hid hf8.size
                have hT1l := Nat.lt_of_lt_of_le hT1l hf8.size
                by_cases hgy : 0 ≤ Gy
                · as_aux_lemma =>
                  have dgy : decide (0 ≤ Gy) = true := decide_eq_true hgy
                  have hs1 := HSG.out.1 hgy
                  have hxy : entAt my Gy = x := by rw [← HX.out]; exact hs1.2.symm
                  have hbt : bb = true := by rw [← HBB.out]; exact decide_eq_true hs1.1
                  subst hbt
                  rw [hxy]
                  obtain ⟨W9, hW9, hf9, hat9⟩ := box_ent w8 x 39
                  obtain ⟨T2, hT2⟩ : ∃ T, w8.heap.size = T := ⟨_, rfl⟩
                  rw [hT2] at hat9
                  obtain ⟨r0, r1, r2, r3⟩ := hat9
                  have HW9 := Lib.hid hW9
                  have HT2 := Lib.hid hT2
                  have q0 := (hf8.trans hf9).cell q0 (fun h => h)
                  have q1 := (hf8.trans hf9).cell q1 (fun h => h)
                  have q2 := (hf8.trans hf9).cell q2 (fun h => h)
                  have q3 := (hf8.trans hf9).cell q3 (fun h => h)
                  have HFZ := Lib.hid (HF5.out.trans (HF7.out.trans (hf8.trans hf9)))
                  rw [← hW9] at q0 q1 q2 q3
                  clear hW9 hT2 hf8 hf9 hs1 hxy
                  unfold entV
                  go_wp2_with fail
                  have HFZ9 := Lib.hid HFZ.out
                  rw [← HW9.out] at HFZ9
                  go_roundw
                  case rel => exact ⟨j2 + 1, by simp, by omega, HFZ9.out⟩
                  case measure => simp [intOf]; omega
                · as_aux_lemma =>
                  have dgy : decide (0 ≤ Gy) = false := decide_eq_false hgy
                  have hs1 := HSG.out.2 (by omega)
                  have hox : entAt mo Go = x := by rw [← HX.out]; exact hs1.2.symm
                  have hob : decide (0 ≤ Go) = bb := by rw [← HBB.out]; exact hs1.1.symm
                  rw [hox, hob] at HCO
                  obtain ⟨xy, hxy⟩ : ∃ xy, entAt my Gy = xy := ⟨_, rfl⟩
                  rw [hxy]
                  obtain ⟨W9, hW9, hf9, hat9⟩ := box_ent w8 xy 39
                  have hA9 : At W9 w8.heap.size 39 #[.string xy.u, .int .i64 xy.q, .int .i64 xy.k, .string xy.val] := by rw [← hW9]; exact At.new w8 _ _
                  obtain ⟨T2, hT2⟩ : ∃ T, w8.heap.size = T := ⟨_, rfl⟩
                  rw [hT2] at hA9
                  have hne : T1 ≠ T2 := by rw [← hT2]; exact Nat.ne_of_lt hT1l
                  have HW9 := Lib.hid hW9
                  have HT2 := Lib.hid hT2
                  have HA9 := Lib.hid hA9
                  have q0 := (hf8.trans hf9).cell q0 (fun h => h)
                  have q1 := (hf8.trans hf9).cell q1 (fun h => h)
                  have q2 := (hf8.trans hf9).cell q2 (fun h => h)
                  have q3 := (hf8.trans hf9).cell q3 (fun h => h)
                  have HF9 := Lib.hid (HF7.out.trans (hf8.trans hf9))
                  have HFZ := Lib.hid (HF5.out.trans HF9.out)
                  have HC9 := Lib.hid (HCO.out W9 HF9.out)
                  clear hW9 hT2 hA9 hf8 hf9 hat9 hs1 hox hob hxy hgy hT1l
                  unfold entV
                  go_wp2_with fail
                  rw [HW9.out, HT2.out]
                  refine (show Calls _ _ _ _ _ from HC9.out).mono ?_
                  rintro e w10 ⟨rfl, hf10⟩
                  have q0 := hf10.cell q0 (fun h => h)
                  have q1 := hf10.cell q1 (fun h => h)
                  have q2 := hf10.cell q2 (fun h => h)
                  have q3 := hf10.cell q3 (fun h => h)
                  obtain ⟨z0, z1, z2, z3, v0, v1, v2, v3⟩ := (HA9.out.keep hf10 (fun h => h)).row4
                  have HF10 := Lib.hid (HFZ.out.trans hf10)
                  clear hf10
                  unfold entV
                  go_wp2_with fail
                  have HFE := Lib.hid (put4_fr (x := .string x.u) (y := .int .i64 x.q) (z := .int .i64 x.k) (v := .string x.val) HF10.out (show _ ≤ T2 by rw [← HT2.out]; exact Nat.le_trans HF57.out.size HSZ8.out))
                  go_roundw
                  case rel => exact ⟨j2 + 1, by simp, by omega, HFE.out⟩
                  case measure => simp [intOf]; omega
              · as_aux_lemma =>
                clear hfr
                have HA1 := Lib.hid (HLNY.out wr HFR2.out)
                go_wp2_with fail
                refine (show Calls _ _ _ _ _ from HA1.out).mono ?_
                rintro e w5 ⟨rfl, hf5⟩
                have HF5 := Lib.hid (HFR2.out.trans hf5)
                have HA2 := Lib.hid (HLNO.out w5 HF5.out)
                clear hf5
                go_wp2_with fail
                refine (show Calls _ _ _ _ _ from HA2.out).mono ?_
                rintro e w6 ⟨rfl, hf6⟩
                have HF6 := Lib.hid (HF5.out.trans hf6)
                have HA3 := Lib.hid (HLNA.out w6 HF6.out)
                clear hf6
                go_wp2_with fail
                refine (show Calls _ _ _ _ _ from HA3.out).mono ?_
                rintro e w7 ⟨rfl, hf7⟩
                have HF7 := Lib.hid (HF6.out.trans hf7)
                have hLL := HLL.out
                subst hLL
                have hi1 : (ny : Int) + (no : Int) ≤ 2100 := by omega
                have hi2 : wrap64 ((ny : Int) + (no : Int)) = (ny : Int) + (no : Int) := by
                  unfold wrap64
                  omega
                clear hf7
                go_wp2_with fail
                refine (show Calls _ _ _ _ _ from AW.out _).mono ?_
                rintro e w8 ⟨rfl, hf8⟩
                have HF8 := Lib.hid (HF3.out.trans (HFR.out.trans (HF7.out.trans hf8)))
                clear hf8
                go_wp2_with fail
                go_ret
                exact ⟨rfl, HF8.out⟩
theorem memSplit_walk {D : World → Nat → (Nat → Prop) → Mt → Prop} (H : MemOK D) (w : World) (a : Option Addr) (cap : Nat) (L : List Bt) (hc : L.length ≤ cap) (hm : cap ≤ maxLen) (hb : Bts w (fun _ => True) a L) (hw : ∀ x ∈ L, BtWf x) (cut : Int) (hcu : (Lit.int .i64 cut).wf = true) (at_ : Int) (hat : (Lit.int .i64 at_).wf = true) :
    Calls Try.prog 7 #[.slice a L.length cap, .int .i64 cut, .int .i64 at_] w fun e w' => e = .returned (.bool true) ∧ Below w.heap.size w w' :=
  (msplit_c H w a _ cap L cut at_ rfl hc hm hb hw hcu hat).mono fun _ _ h => ⟨h.1, h.2.below (Nat.le_refl _) (fun _ h => absurd h (fun h => h))⟩
end Go.Proofs.Ytggjkpgkmohmdaa
