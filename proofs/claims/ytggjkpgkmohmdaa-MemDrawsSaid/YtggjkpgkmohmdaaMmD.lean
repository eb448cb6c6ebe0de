/-
  Layer 11, the program's own: Apply.
-/
import Derived.Test.YtggjkpgkmohmdaaMmB
import Derived.Test.YtggjkpgkmohmdaaBcD
import Derived.Test.YtggjkpgkmohmdaaBcL
namespace Go.Proofs.Ytggjkpgkmohmdaa
set_option linter.unusedVariables false
open Go.RowKit

set_option maxHeartbeats 800000 in
theorem hgt_c (da : Option Addr) (dn dc : Nat) (dl : List Int) (i : Nat) (w : World) (hd : dl.length = dn) (hm : dn ≤ maxLen) (hi : Ints w da dl) (hi9 : i ≤ 100) :
    Calls Try.prog 36 #[.slice da dn dc, .int .i64 (i : Int)] w fun e w' => (∃ h : Nat, e = .returned (.int .i64 (h : Int)) ∧ 1 ≤ h ∧ h ≤ 12) ∧ w = w' := by
  unfold maxLen at hm
  by_cases hlt : i < dn
  · obtain ⟨b, o, rfl, hc⟩ := hi (by omega)
    obtain ⟨h1, h2⟩ := hc i _ (List.getElem?_eq_getElem (by omega : i < dl.length))
    have hwf := wf_10 h2
    obtain ⟨d, hd'⟩ : ∃ d, dl[i]'(by omega) = d := ⟨_, rfl⟩
    rw [hd'] at h1 hwf
    have HC := Lib.hid (heightR_c d w hwf.1 hwf.2)
    clear hc hd' h2 hi hd
    go_enter Try.func36, Try.ntmps36
    go_wp2_with fail
    refine (show Calls _ _ _ _ _ from HC.out).mono ?_
    rintro e w1 ⟨⟨h, rfl, hh1, hh2⟩, rfl⟩
    go_wp2_with fail
    go_ret
    exact ⟨⟨h, rfl, hh1, hh2⟩, rfl⟩
  · clear hi hd
    go_enter Try.func36, Try.ntmps36
    go_wp2_with fail
    go_ret
    exact ⟨⟨1, rfl, by omega, by omega⟩, rfl⟩
theorem Ints.keepF {w w' : World} {T : Nat → Prop} {a : Option Addr} {l : List Int} (h : Ints w a l) (f : Fr T w w') (hn : ∀ b o, a = some ⟨b, o, none⟩ → 0 < l.length → ¬ T b) : Ints w' a l := fun hl => by
  obtain ⟨b, o, ha, hc⟩ := h hl
  exact ⟨b, o, ha, fun i x hx => ⟨f.cell (hc i x hx).1 (hn b o ha hl), (hc i x hx).2⟩⟩
theorem putAll_lt (es : List Ent) (q : Int) (l : List Op10) (h : ∀ e ∈ es, e.q < q) : ∀ j, j ≤ l.length → ∀ e ∈ putAll es q (l.take j), e.q < q + (j : Int)
  | 0, _, e, he => by
    have := h e (by simpa [putAll] using he)
    omega
  | j + 1, hj, e, he => by
    rw [put_step es q l j (by omega)] at he
    rcases putL_mem.1 he with rfl | he
    · show q + (j : Int) < _
      omega
    · have := putAll_lt es q l h j (by omega) e he
      omega
theorem cmpE_ne {x e : Ent} (h : e.q ≠ x.q) : cmpE x e ≠ 0 := fun h2 => h ((cmpE_zero x e).1 h2).2.1.symm
/-- What holds at the head of each round of Apply. -/
structure AppI (t sb hb hs mb : Nat) (ns : List KU.N2) (es : List Ent) (q la : Int) (l : List Op10) (w5 wr : World) (j : Nat) : Prop where
  ex : ∃ ns', TabAt wr t sb hb hs mb ns' (putAll es q (l.take j)) ((putAll es q (l.take j)).map sizeE).sum la ∧ (∀ k, TabOn t sb hb hs mb ns' k → TabOn t sb hb hs mb ns k ∨ w5.heap.size ≤ k)
  fr : Fr (TabOn t sb hb hs mb ns) w5 wr
set_option maxRecDepth 20000 in
set_option maxHeartbeats 6400000 in
theorem tapply_c (w : World) (t : Nat) (F : Nat → Prop) (m : Mt) (q : Int) (a : Option Addr) (n cap : Nat) (l : List Op10) (S : Nat → Prop) (da : Option Addr) (dn dc : Nat) (dl : List Int) (H : Dm w t F m) (hm1 : m.es.length ≤ 100000) (hq : (Lit.int .i64 q).wf = true) (hn : l.length = n) (hnc : n ≤ cap) (hcm : cap ≤ maxLen) (hops : Ops w S a l) (hS : ∀ k, S k → ¬ F k)
    (how : ∀ x ∈ l, OpWf x) (hd1 : dl.length = dn) (hd2 : dn ≤ dc) (hd3 : dc ≤ maxLen) (hdi : Ints w da dl) (hdF : ∀ b o, da = some ⟨b, o, none⟩ → 0 < dn → ¬ F b) :
    Calls Try.prog 19 #[.pointer (some ⟨t, 0, none⟩), .agg #[.int .i64 q, .slice a n cap], .slice da dn dc] w (MovM Dm t F (applyM m q l) (.int .i64 (applyE m q l)) w) := by
  subst hn
  have HD := Lib.hid H
  obtain ⟨sb, hb, hs, mb, ns, hT, hF, hsr, hgd⟩ := H
  obtain ⟨W, hW, hfW, m0, m1⟩ := box_batch w q (.slice a l.length cap)
  obtain ⟨B, hB⟩ : ∃ B, w.heap.size = B := ⟨_, rfl⟩
  rw [hB] at m0 m1
  have HB := Lib.hid hB
  have HCH := Lib.hid (bcheck_c q a cap l W S hq hnc hcm (hops.keep hfW fun _ _ h => h) how)
  have HKE := Lib.hid (fun (w' : World) (f : Fr No w w') => bkeysOwn_c q a cap l w' S hq hnc hcm (hops.keep f fun _ _ h => h) how)
  have HLA := Lib.hid (fun (w' : World) (f : Fr F w w') => blast_c q a cap l w' S hq hnc hcm (hops.keep f hS) how)
  have HT := Lib.hid hT
  have HF := Lib.hid hF
  have HSR := Lib.hid hsr
  have HGD := Lib.hid hgd
  have HOPS := Lib.hid hops
  have HS := Lib.hid hS
  have HOW := Lib.hid how
  have HW := Lib.hid hW
  have HFW := Lib.hid hfW
  have HDD := Lib.hid (show dl.length = dn ∧ dn ≤ dc ∧ dc ≤ maxLen from ⟨hd1, hd2, hd3⟩)
  have HDI := Lib.hid hdi
  have HDF := Lib.hid hdF
  have hAC := applyE_cases m q l
  obtain ⟨n, hnl⟩ : ∃ n, l.length = n := ⟨_, rfl⟩
  have HNL := Lib.hid hnl
  rw [hnl] at HCH HKE HLA HW m1 hnc hAC ⊢
  have t3 := (hT.tb.keep hfW (fun h => h)).cell 3
  simp at t3
  obtain ⟨ml, hml⟩ : ∃ ml, m.last = ml := ⟨_, rfl⟩
  have HML := Lib.hid hml
  rw [hml] at t3 hAC
  clear hT hF hsr hgd hops hS how hW hfW hd1 hd2 hd3 hdi hdF hnl hml hq hB
  rcases hAC with ⟨ha, hE0, hM0⟩ | ⟨ha, hql, hE0, hM0⟩ | ⟨ha, hql, hE0, hM0⟩
  · rw [ha, show errO false = .int .i64 100 from rfl] at HCH
    rw [hE0, hM0]
    clear ha hE0 hM0
    go_enter Try.func19, Try.ntmps19
    go_wp2_with fail
    rw [HW.out, HB.out]
    refine (show Calls _ _ _ _ _ from HCH.out).mono ?_
    rintro e w1 ⟨rfl, hf1⟩
    have HF1 := Lib.hid (HFW.out.trans hf1)
    clear hf1
    go_wp2_with fail
    go_ret
    exact ⟨rfl, F, HD.out.keep_ HF1.out (fun _ _ h => h), fun k h => .inl h, HF1.out.sub fun k _ h => absurd h (fun h => h)⟩
  · rw [ha, show errO true = .int .i64 0 from rfl] at HCH
    rw [hE0, hM0]
    have d0 : decide (q ≤ ml) = true := decide_eq_true hql
    clear ha hE0 hM0 hql
    go_enter Try.func19, Try.ntmps19
    go_wp2_with fail
    rw [HW.out, HB.out]
    refine (show Calls _ _ _ _ _ from HCH.out).mono ?_
    rintro e w1 ⟨rfl, hf1⟩
    have HF1 := Lib.hid (HFW.out.trans hf1)
    have m0 := hf1.cell m0 (fun h => h)
    have m1 := hf1.cell m1 (fun h => h)
    have t3 := hf1.cell t3 (fun h => h)
    clear hf1
    go_wp2_with fail
    go_region
    go_wp2_with fail
    go_ret
    exact ⟨rfl, F, HD.out.keep_ HF1.out.drew (fun _ _ h => h), fun k h => .inl h, HF1.out.drew.sub fun k _ h => absurd h (fun h => h)⟩
  · rw [ha, show errO true = .int .i64 0 from rfl] at HCH
    rw [hE0, hM0]
    have d0 : decide (q ≤ ml) = false := decide_eq_false hql
    have HP := Lib.hid (allO_parts ha)
    rw [HNL.out] at HP
    have HA := Lib.hid ha
    clear hE0 hM0
    go_enter Try.func19, Try.ntmps19
    go_wp2_with fail
    rw [HW.out, HB.out]
    refine (show Calls _ _ _ _ _ from HCH.out).mono ?_
    rintro e w1 ⟨rfl, hf1⟩
    have HF1 := Lib.hid (HFW.out.trans hf1)
    have m0 := hf1.cell m0 (fun h => h)
    have m1 := hf1.cell m1 (fun h => h)
    have t3 := hf1.cell t3 (fun h => h)
    have HK1 := Lib.hid (HKE.out w1.drew HF1.out.drew)
    clear hf1 ha
    go_wp2_with fail
    go_region
    go_wp2_with fail
    refine (show Calls _ _ _ _ _ from HK1.out).mono ?_
    rintro e w2 ⟨v2, rfl, hr2, hf2⟩
    rw [HA.out, if_pos rfl, HNL.out, show keysO q l = keysC q l by unfold keysO; rw [HA.out, if_pos rfl]] at hr2
    obtain ⟨ka, kc, rfl, k1, k2, _, hcells⟩ := hr2.form
    obtain ⟨d, hdS, rfl, hkc⟩ := hcells (by have := HP.out.1; omega)
    have hdge : w.heap.size ≤ d ∧ d < w2.heap.size := by
      rcases hdS with h | h
      · exact absurd h (fun h => h)
      · exact ⟨Nat.le_trans HF1.out.drew.size h.1, h.2⟩
    have HDG := Lib.hid hdge
    have HKC := Lib.hid hkc
    have HF2 := Lib.hid (HF1.out.drew.trans hf2)
    have HT2 := Lib.hid (HT.out.keep HF2.out (fun _ _ h => h))
    have HLT := Lib.hid HT.out.lt
    have m0 := (Fr.refl No w1).drew.trans hf2 |>.cell m0 (fun h => h)
    have m1 := (Fr.refl No w1).drew.trans hf2 |>.cell m1 (fun h => h)
    have START : Hid (AppI t sb hb hs mb ns m.es q ml l w2 w2 0) := Lib.hid ⟨⟨ns, by have := HT2.out; rw [HML.out] at this; exact this, fun k h => .inl h⟩, Fr.refl _ _⟩
    have hp1 := HP.out.1
    have hp2 := HP.out.2.1
    have hp3 := HP.out.2.2.1
    have hp4 := HP.out.2.2.2.1
    clear hr2 hcells hdS hdge hkc hf2 HK1 t3 d0
    go_wp2_with fail
    go_loopw [25] (fun i wr => ∃ j : Nat, i = .int .i64 (j : Int) ∧ j ≤ n ∧ AppI t sb hb hs mb ns m.es q ml l w2 wr j) (fun i _ => n - (intOf i).toNat)
    case atStart => exact ⟨0, rfl, Nat.zero_le _, START.out⟩
    case round =>
      obtain ⟨j, rfl, hj, hI⟩ := hrel
      have HI := Lib.hid hI
      obtain ⟨⟨ns', hT', hon'⟩, hfr⟩ := hI
      have hBn : ¬ TabOn t sb hb hs mb ns B := fun h => by have := HLT.out B h; have := HB.out; omega
      have hm0 := hfr.cell m0 hBn
      have hm1 := hfr.cell m1 hBn
      by_cases hlt : j < n
      · have hjl : j < l.length := by rw [HNL.out]; exact hlt
        have HST := Lib.hid (put_step m.es q l j hjl)
        have hdn : ¬ TabOn t sb hb hs mb ns d := fun h => by have := HLT.out d h; have := HDG.out; omega
        obtain ⟨y0, y1, y2⟩ := keysC_get l q j hjl
        have g0 := hfr.cell ((HKC.out (j * 3) (by omega)).1.trans y0) hdn
        have g1 := hfr.cell ((HKC.out (j * 3 + 1) (by omega)).1.trans y1) hdn
        have g2 := hfr.cell ((HKC.out (j * 3 + 2) (by omega)).1.trans y2) hdn
        obtain ⟨b2, o2, hb2, ha2, hys⟩ := HOPS.out (by omega)
        have hb2n : ¬ TabOn t sb hb hs mb ns b2 := fun h => HS.out b2 hb2 ((HF.out b2).2 h)
        have hy := ((hys j hjl).keep HF2.out (fun h => h)).keep hfr hb2n
        have hb2l : b2 < w2.heap.size := cell_block ((hys j hjl).keep HF2.out (fun h => h)).c2
        have hBl : B < w2.heap.size := cell_block m1
        have hyr := HP.out.2.2.2.2 _ (getD_mem l j hjl)
        obtain ⟨y, hy0⟩ : ∃ y, l.getD j op0 = y := ⟨_, rfl⟩
        rw [hy0] at hy HST hyr g0 g2
        have HGY : Hid (EntGood (opEnt (q + (j : Int)) y)) := Lib.hid (opEnt_good (by omega) (by omega) hyr)
        obtain ⟨_, _, c2⟩ := hy
        rw [ha2] at hm1
        have hlen : (putAll m.es q (l.take j)).length ≤ 100000 + 64 := by
          rw [putAll_len, List.length_take]
          omega
        have hZb : ((putAll m.es q (l.take j)).map sizeE).sum ≤ 1000000000000 := by
          have := sizes_le _ hT'.good
          have : (putAll m.es q (l.take j)).length * 10000 ≤ 100064 * 10000 := Nat.mul_le_mul hlen (Nat.le_refl _)
          omega
        have hne : ∀ e ∈ putAll m.es q (l.take j), cmpE (opEnt (q + (j : Int)) y) e ≠ 0 := fun e he => cmpE_ne (by
          have := putAll_lt m.es q l (fun e he => by have := HSR.out.le e he; rw [HML.out] at this; omega) j (by omega) e he
          show e.q ≠ q + (j : Int)
          omega)
        obtain ⟨Wk, hWk, hfk, r0, r1, r2⟩ := box_key wr y.key (q + (j : Int)) y.k
        obtain ⟨D, hDD⟩ : ∃ D, wr.heap.size = D := ⟨_, rfl⟩
        rw [hDD] at r0 r1 r2
        have HDD2 := Lib.hid hDD
        have HWK := Lib.hid hWk
        have HPUT : Hid (∀ w', Fr No wr w' → ∀ h : Nat, 1 ≤ h → h ≤ 12 → Calls Try.prog 35 #[.pointer (some ⟨t, 0, none⟩), .agg #[.string y.key, .int .i64 (q + (j : Int)), .int .i64 y.k, .string y.val], .int .i64 (h : Int)] w' fun e w'' => e = .returned (.tuple #[]) ∧
            AppI t sb hb hs mb ns m.es q ml l w2 w'' (j + 1) ∧ Fr (TabOn t sb hb hs mb ns') w' w'') := Lib.hid fun w' f h hh1 hh2 =>
          (tput_c w' t sb hb hs mb ns' _ _ ml (opEnt (q + (j : Int)) y) h (hT'.keep f (fun _ _ h => h)) (by omega) hZb HGY.out hne hh1 hh2).mono fun e w'' hr => by
            obtain ⟨rfl, ⟨ns2, hT2, hon2⟩, hf2⟩ := hr
            refine ⟨rfl, ⟨⟨ns2, ?_, fun k hk => ?_⟩, ?_⟩, hf2⟩
            · rw [HST.out, putL_size, Nat.add_comm]
              exact hT2
            · rcases hon2 k hk with h | h
              · exact hon' k h
              · exact .inr (Nat.le_trans (Nat.le_trans hfr.size f.size) h)
            · refine (hfr.trans (f.sub fun k _ h => absurd h (fun h => h))).then_ hf2 fun k hk h => ?_
              rcases hon' k h with h | h
              · exact h
              · omega
        have HHG : Hid (∀ w', Fr No wr w' → Calls Try.prog 36 #[.slice da dn dc, .int .i64 (j : Int)] w' fun e w'' => (∃ h : Nat, e = .returned (.int .i64 (h : Int)) ∧ 1 ≤ h ∧ h ≤ 12) ∧ w' = w'') := Lib.hid fun w' f => hgt_c da dn dc dl j w' HDD.out.1 (Nat.le_trans HDD.out.2.1 HDD.out.2.2) ((HDI.out.keep HF2.out).keepF (hfr.trans (f.sub fun k _ h => absurd h (fun h => h))) fun b o e h hb => HDF.out b o e (by have := HDD.out.1; omega) ((HF.out b).2 hb)) (by omega)
        have HBD := Lib.hid (show B < wr.heap.size ∧ d < wr.heap.size ∧ b2 < wr.heap.size from ⟨cell_block hm1, cell_block g0, cell_block c2⟩)
        have HTN : Hid (∀ k, wr.heap.size ≤ k → ¬ TabOn t sb hb hs mb ns' k) := Lib.hid fun k h1 h2 => by have := hT'.lt k h2; omega
        have HBN : Hid (¬ TabOn t sb hb hs mb ns' B ∧ ¬ TabOn t sb hb hs mb ns' b2) := Lib.hid ⟨fun h => (hon' B h).elim hBn (fun h => by omega), fun h => (hon' b2 h).elim hb2n (fun h => by omega)⟩
        have hm1 := hfk.cell hm1 (fun h => h)
        have c2 := hfk.cell c2 (fun h => h)
        rw [HDD2.out] at HTN
        have hfx := (Fr.refl No Wk).drew
        have HFK := Lib.hid hfk
        clear HI hT' hon' hfr hyr hlen hZb hne hWk hfk hDD hdn hBn hb2n hys ha2 hb2 y0 y1 y2 hy0
        go_wp2_with fail
        rw [HWK.out, HDD2.out]
        go_region_held3 (fun w' => w'.cell? ⟨D, 0, none⟩ = some (.string y.key) ∧ w'.cell? ⟨D, 1, none⟩ = some (.int .i64 (q + (j : Int))) ∧ w'.cell? ⟨D, 2, none⟩ = some (.int .i64 y.k) ∧ w'.cell? ⟨B, 1, none⟩ = some (.slice (some ⟨b2, o2, none⟩) n cap) ∧ w'.cell? ⟨b2, o2 + j * 3 + 2, none⟩ = some (.string y.val)) (first | assumption | go_keep)
          (first
            | (go_at_call 36; refine (HHG.out _ (HFK.out.trans (Fr.drew (Fr.refl _ _)))).mono ?_; intro e w6 hret; obtain ⟨⟨hg, rfl, hh1, hh2⟩, rfl⟩ := hret)
            | (go_at_call 35; refine (HPUT.out _ (HFK.out.trans (Fr.drew (Fr.refl _ _))) _ hh1 hh2).mono ?_; intro e w7 hret; obtain ⟨rfl, hap, hf7⟩ := hret
               have r0 := hf7.cell (p := ⟨D, 0, none⟩) r0 (HTN.out D (Nat.le_refl _))
               have r1 := hf7.cell (p := ⟨D, 1, none⟩) r1 (HTN.out D (Nat.le_refl _))
               have r2 := hf7.cell (p := ⟨D, 2, none⟩) r2 (HTN.out D (Nat.le_refl _))
               have hm1 := hf7.cell (p := ⟨B, 1, none⟩) hm1 HBN.out.1
               have c2 := hf7.cell (p := ⟨b2, o2 + j * 3 + 2, none⟩) c2 HBN.out.2
               have HAP := Lib.hid hap
               clear hf7 hap))
        go_wp2_with fail
        go_roundw
        case rel => exact ⟨j + 1, by simp, by omega, HAP.out⟩
        case measure => simp [intOf]; omega
      · have hj' : j = n := by omega
        have HFR := Lib.hid (show Fr F w wr from (HF2.out.sub (T := F) fun k _ h => absurd h (fun h => h)).then_ hfr fun k _ h => (HF.out k).2 h)
        have HL := Lib.hid (HLA.out wr HFR.out)
        have HLO : Hid (lastO q l = q + (n : Int) - 1) := Lib.hid (by unfold lastO; rw [HA.out, if_pos rfl, HNL.out])
        rw [HLO.out] at HL
        clear hfr hT' hon' hBn m0 m1
        go_wp2_with fail
        refine (show Calls _ _ _ _ _ from HL.out).mono ?_
        rintro e w6 ⟨rfl, hf6⟩
        have HI6 : Hid (∃ ns', TabAt w6 t sb hb hs mb ns' (putAll m.es q l) ((putAll m.es q l).map sizeE).sum ml ∧ (∀ k, TabOn t sb hb hs mb ns' k → TabOn t sb hb hs mb ns k ∨ w.heap.size ≤ k)) := Lib.hid (by
          obtain ⟨⟨ns', hT', hon'⟩, hfr⟩ := HI.out
          have e : l.take j = l := List.take_of_length_le (by rw [HNL.out]; omega)
          rw [e] at hT'
          exact ⟨ns', hT'.keep hf6 (fun _ _ h => h), fun k hk => (hon' k hk).elim .inl fun h => .inr (Nat.le_trans HF2.out.size h)⟩)
        have HF6 : Hid (Fr F w w6) := Lib.hid (HFR.out.trans (hf6.sub fun k _ h => absurd h (fun h => h)))
        obtain ⟨ns', hT', hon'⟩ := HI6.out
        have t3 := hT'.tb.cell 3
        have f3 := hT'.tb.frozen 3
        simp at t3
        have HT6 := Lib.hid hT'
        have HON6 := Lib.hid hon'
        clear hf6 hT' hon' HL
        go_wp2_with fail
        go_ret
        have f7 : Fr (One t) w6 (w6.setCell ⟨t, 3, none⟩ (.int .i64 (q + (n : Int) - 1))) := Fr.setCell (Fr.refl (One t) w6) (p := ⟨t, 3, none⟩) (fun _ => show One t t from rfl) _
        have HM' : applyM m q l = ⟨putAll m.es q l, q + (l.length : Int) - 1⟩ := by
          have := applyE_cases m q l
          rcases this with ⟨h, _⟩ | ⟨_, h, _⟩ | ⟨_, _, _, h⟩
          · rw [HA.out] at h; cases h
          · rw [HML.out] at h; exact absurd h (by omega)
          · exact h
        have hsr' := applyM_srt (q := q) (l := l) HSR.out
        have hgd' := applyM_good (q := q) (l := l) HGD.out.1 (by rw [HNL.out]; omega)
        rw [HM'] at hsr' hgd'
        rw [HNL.out] at hsr' hgd'
        have hkd' : KindM ⟨putAll m.es q l, q + (n : Int) - 1⟩ := fun x hx => by
          rcases (putAll_mem l m.es q x).1 hx with h | ⟨i, hi, rfl⟩
          · exact HGD.out.2 x h
          · obtain ⟨_, _, _, h4⟩ := rightO_parts (HP.out.2.2.2.2 _ (List.getElem_mem hi))
            show l[i].k = 1 ∨ l[i].k = 2
            omega
        refine ⟨rfl, TabOn t sb hb hs mb ns', ⟨sb, hb, hs, mb, ns', ⟨?_, HT6.out.sk.keep f7 (fun k hk (e : k = t) => HT6.out.ne.2.1 (e ▸ hk)), HT6.out.mp.keep f7 (fun h : mb = t => HT6.out.ne.1 h.symm), HT6.out.ne, HT6.out.ks, HT6.out.good, HT6.out.srt⟩, fun k => Iff.rfl, hsr', ⟨Nat.le_refl _, hgd'.ent, hgd'.last⟩, hkd'⟩, fun k hk => (HON6.out k hk).elim (fun h => .inl ((HF.out k).2 h)) .inr, HF6.out.then_ f7 fun k _ (hk : k = t) => (HF.out k).2 (.inl hk)⟩
        have := HT6.out.tb.set_ 3 (.int .i64 (q + (n : Int) - 1))
        simpa [sizeMt] using this
end Go.Proofs.Ytggjkpgkmohmdaa
