/-
  Layer 12: the walk of BlockBack.
-/
import Derived.Test.YtiacdakaolghmaaBkC
import Derived.Test.YtiacdakaolghmaaBkF
import Derived.Test.YtiacdakaolghmaaBkU
import Derived.Test.YtiacdakaolghmaaSame
namespace Go.Proofs.Ytiacdakaolghmaa
set_option linter.unusedVariables false
open Go.RowKit

theorem not_u8k (x : UInt8) : bits .xor .u8 255 (x.toNat : Int) = ((~~~x).toNat : Int) := by
  have : ∀ y : Fin 256, bits .xor .u8 255 (y.val : Int) = ((255 - y.val : Nat) : Int) := by decide +kernel
  have h := this ⟨x.toNat, x.toNat_lt⟩
  rw [h]
  congr 1
  rw [UInt8.toNat_not]
  rfl
set_option maxRecDepth 20000 in
set_option maxHeartbeats 12800000 in
theorem back12_c {X : World → Nat → (Nat → Prop) → List Pr → Nat → Prop} (H : BlockOK X) (w : World) (a : Option Addr) (n cap : Nat) (l : List Pr) (ev : Int) (wv : (Lit.int .i64 ev).wf = true)
    (hn : l.length = n) (hc : n ≤ cap) (hm : cap ≤ maxLen) (hp : Prs w (fun _ => True) a l) :
    Calls Try.prog 3 #[.slice a n cap, .int .i64 ev] w (PlainRet (.bool true) w) := by
  have AW := Lib.hid (fun w => awake12_c H w)
  have CS := Lib.hid (small12_c a n cap l _ w hn (Nat.le_trans hc hm) hp)
  have hn' : n ≤ 9223372036854775807 := by unfold maxLen at hm; omega
  have HN := Lib.hid hn
  have HC := Lib.hid (show n ≤ cap ∧ cap ≤ maxLen from ⟨hc, hm⟩)
  have HP := Lib.hid hp
  have HH := Lib.hid H
  have HWV := Lib.hid wv
  clear hn hc hm hp H wv
  by_cases hs : Small12 l
  · have dS : decide (Small12 l) = true := decide_eq_true hs
    rw [dS] at CS
    have HS := Lib.hid hs
    have h80 : n ≤ 80 := HN.out ▸ hs.2
    clear dS hs
    have CR := Lib.hid (fun (w' : World) (f : Fr No w w') => ref12_c a n cap l _ w' HN.out (by omega) (HP.out.keep f fun _ _ h => h))
    have CO := Lib.hid (fun (w' : World) (S : Nat → Prop) (a' : Option Addr) (c' : Nat) (hi : Prs w' S a' l) => refOrder_c S a' c' l w' (by rw [HN.out]; unfold maxLen; omega) hi (fun i hi => Nat.le_trans (HS.out.1 i hi).1 (by unfold maxLen; omega)))
    rw [HN.out] at CO
    have CB := Lib.hid (fun (w' : World) (f : Fr No w w') => HH.out.build w' _ a n cap l ev HN.out HC.out.1 HC.out.2 h80 HS.out.1 (HP.out.keep f fun _ _ h => h) HWV.out)
    by_cases hg : 1 ≤ ev ∧ ev ≤ 64
    · obtain ⟨g1, g2⟩ := hg
      obtain ⟨ee, rfl⟩ : ∃ ee : Nat, ev = (ee : Int) := ⟨ev.toNat, by omega⟩
      have he1 : 1 ≤ ee := by omega
      have he2 : ee ≤ 64 := by omega
      by_cases ho : ordP l
      · have dO : decide (ordP l) = true := decide_eq_true ho
        rw [dO] at CO
        have HO := Lib.hid ho
        clear ho dO CB
        have CB := Lib.hid (fun (w' : World) (f : Fr No w w') => build_ok HH.out w' _ a n cap l ee HN.out HC.out.1 HC.out.2 h80 HS.out.1 (HP.out.keep f fun _ _ h => h) he1 he2 HO.out)
        have CP := Lib.hid (fun (w' : World) (a' : Option Addr) (n' c' : Nat) h1 h2 h3 h4 => open_ok HH.out w' a' n' c' l ee h1 h2 h3 HS.out.2 HS.out.1 h4 he1 he2 HO.out)
        have CU := Lib.hid (fun (w' : World) (S : Nat → Prop) (a' : Option Addr) (c' : Nat) (hi : Prs w' S a' l) => refBuild_c S a' n c' l ee w' HN.out (by omega) (fun i hi => ⟨Nat.le_trans (HS.out.1 i hi).1 (by omega), Nat.le_trans (HS.out.1 i hi).2 (by omega)⟩) he1 he2 hi)
        have HBP := Lib.hid (show 0 < (blockB ee l).length by rw [blockB_len]; omega)
        go_enter Try.func3, Try.ntmps3
        go_wp2_with fail
        refine (show Calls _ _ _ _ _ from CS.out).mono ?_
        rintro e w1 ⟨rfl, hf1⟩
        have HF1 := Lib.hid hf1
        clear hf1
        go_wp2_with fail
        refine (show Calls _ _ _ _ _ from CB.out _ HF1.out).mono ?_
        rintro e w2 ⟨v2, rfl, hr2, hf2⟩
        have HF2 := Lib.hid (HF1.out.trans hf2)
        obtain ⟨bm, hbm⟩ : ∃ bm, (blockB ee l).length = bm := ⟨_, rfl⟩
        have hbp := HBP.out
        obtain ⟨g, c2, rfl, hg2, k1, k2, _, _, _⟩ := (hr2.some hbp).at_ (i := 0) hbp
        have hg3 : w1.heap.size ≤ g ∧ g < w2.heap.size := by
          rcases hg2 with h | h
          · exact h.elim
          · exact h
        have hgw : w.heap.size ≤ g := Nat.le_trans HF1.out.size hg3.1
        have hrowg : RowZ w2 (One g) (.slice (some ⟨g, 0, none⟩) (blockB ee l).length c2) (blockB ee l) := by
          obtain ⟨g', e1, _, e2⟩ := (hr2.some hbp).own
          cases Option.some.inj e1
          exact e2
        rw [hbm] at hrowg k1 ⊢
        have HRW := Lib.hid hrowg
        have HBM := Lib.hid hbm
        have HK := Lib.hid (show bm ≤ c2 ∧ c2 ≤ maxLen from ⟨k1, k2⟩)
        have hg4 := hg3.2
        have HRD : Hid (Rd w2 (some ⟨g, 0, none⟩) (blockB ee l)) := Lib.hid (by
          obtain ⟨a', c', e1, _, _, e2⟩ := hrowg.form
          injection e1 with e3 e4 e5
          subst e3
          exact e2.rd)
        have hbmax : bm ≤ 60000 := by rw [← hbm]; exact blockB_small HS.out.1 HS.out.2
        clear hr2 hf2 hrowg hbm hg2 hg3 k1 k2 hbp
        go_wp2_with fail
        refine (show Calls _ _ _ _ _ from CR.out _ HF2.out).mono ?_
        rintro e w3 ⟨v3, rfl, hr3, hf3⟩
        obtain ⟨a3, c3, rfl, _, _, hp3⟩ := hr3.prs
        have HF3 := Lib.hid hf3
        have C3 := Lib.hid (CO.out w3 _ a3 c3 hp3)
        rw [HN.out]
        clear hr3 hf3 hp3
        go_wp2_with fail
        refine (show Calls _ _ _ _ _ from C3.out).mono ?_
        rintro e w4 ⟨rfl, hf4⟩
        have HF4 := Lib.hid (HF3.out.trans hf4)
        clear hf4 C3
        go_wp2_with fail
        refine (show Calls _ _ _ _ _ from CR.out _ (HF2.out.trans HF4.out)).mono ?_
        rintro e w5 ⟨v5, rfl, hr5, hf5⟩
        obtain ⟨a5, c5, rfl, _, _, hp5⟩ := hr5.prs
        have HF5 := Lib.hid (HF4.out.trans hf5)
        have C5 := Lib.hid (CU.out w5 _ a5 c5 hp5)
        rw [HN.out]
        clear hr5 hf5 hp5
        go_wp2_with fail
        refine (show Calls _ _ _ _ _ from C5.out).mono ?_
        rintro e w6 ⟨v6, rfl, hr6, hf6⟩
        obtain ⟨a6, c6, rfl, _, _, hin6⟩ := hr6.form
        have HF6 := Lib.hid (HF5.out.trans hf6)
        have C6 := Lib.hid (same_yes (w := w6) HBM.out HBM.out (HRD.out.keep HF6.out) hin6.rd (cap := c2) (cap' := c6) rfl)
        rw [HBM.out]
        clear hr6 hf6 hin6 C5
        go_wp2_with fail
        refine (show Calls _ _ _ _ _ from C6.out).mono ?_
        rintro e w7 ⟨rfl, rfl⟩
        have C7 := Lib.hid (CP.out w6 _ bm c2 HBM.out HK.out.1 HK.out.2 (HRD.out.keep HF6.out))
        have hg6 : g < w6.heap.size := Nat.lt_of_lt_of_le hg4 HF6.out.size
        clear C6
        go_wp2_with fail
        refine (show Calls _ _ _ _ _ from C7.out).mono ?_
        rintro e w8 ⟨x, F, rfl, hx8, hF8, hf8⟩
        have HX8 := Lib.hid hx8
        have HFg : Hid (∀ k, F k → ¬ One g k) := Lib.hid fun k h1 h2 => by
          have := hF8 k h1
          unfold One at h2
          omega
        have HF28 := Lib.hid (HF6.out.trans hf8)
        have HF8 := Lib.hid (HF2.out.trans HF28.out)
        have HRW8 := Lib.hid (HRW.out.keep HF28.out fun _ _ h => h)
        have HPT : Hid (Prs w8 (Till w.heap.size) a l) := Lib.hid ((HP.out.sub fun k hk _ => hk).keep HF8.out fun _ _ h => h)
        have HTg : Hid (∀ k, Till w.heap.size k → ¬ One g k) := Lib.hid fun k h1 h2 => by
          unfold Till at h1
          unfold One at h2
          omega
        have HND : Hid (∀ w', Fr (One g) w8 w' → Fr No w w') := Lib.hid fun w' f => HF8.out.then_ f fun k hk h => by
          unfold One at h
          omega
        clear hx8 hF8 hf8 C7 hg6 hg4 hgw HRW
        have CL := Lib.hid (fun (w' : World) (f : Fr (One g) w8 w') => HH.out.len w' x F l ee (HH.out.keep HX8.out f HFg.out))
        rw [HN.out] at CL
        have CE := Lib.hid (fun (w' : World) (f : Fr (One g) w8 w') => HH.out.every w' x F l ee (HH.out.keep HX8.out f HFg.out))
        have CA := Lib.hid (fun (w' : World) (f : Fr (One g) w8 w') (i : Int) (hi : (Lit.int .i64 i).wf = true) => HH.out.at_ w' x F l ee i (HH.out.keep HX8.out f HFg.out) hi)
        have CQ := Lib.hid (fun (w' : World) (f : Fr (One g) w8 w') => HH.out.restarts w' x F l ee (HH.out.keep HX8.out f HFg.out))
        rw [HN.out] at CQ
        go_wp2_with fail
        go_loopw [71] (fun i wr => ∃ (k : Nat) (Y : List UInt8), i = .int .i64 k ∧ k ≤ bm ∧ Y.length = bm ∧ RowZ wr (One g) (.slice (some ⟨g, 0, none⟩) bm c2) Y ∧ Fr (One g) w8 wr) (fun i _ => bm - (intOf i).toNat)
        case atStart => exact ⟨0, _, rfl, Nat.zero_le _, HBM.out, HRW8.out, Fr.refl _ _⟩
        case round =>
          clear HRW8
          obtain ⟨k, Y, rfl, hkm, hY, hrow, hfr⟩ := hrel
          by_cases hlt : k < bm
          · obtain ⟨g', c', hv', _, _, _, c0, c1', hset⟩ := hrow.at_ (i := k) (by omega)
            injection hv' with hv1 hv2 hv3
            have hv1 := congrArg Addr.block (Option.some.inj hv1)
            have hv1 : g = g' := hv1
            subst hv1
            obtain ⟨z, hz⟩ : ∃ z : UInt8, z = ~~~ (Y.getD k 0) := ⟨_, rfl⟩
            have HE : Hid (bits BinOp.xor IntKind.u8 (if IntKind.u8.signed = true then -1 else IntKind.u8.max) ((Y.getD k 0).toNat : Int) = (z.toNat : Int)) := Lib.hid (by rw [hz]; exact not_u8k (Y.getD k 0))
            obtain ⟨hrow2, f2⟩ := hset z
            have HRo := Lib.hid hrow2
            have HFz := Lib.hid (hfr.trans f2)
            have HY2 : Hid ((Y.set k z).length = bm) := Lib.hid (by rw [List.length_set]; exact hY)
            have hx := (Y.getD k 0).toNat_lt
            generalize Y.getD k 0 = y at *
            have Hz := Lib.hid hz
            clear hset hrow2 f2 hz hv2 hv3 hY hrow hfr
            go_wp2_with fail
            go_roundw
            case rel => exact ⟨k + 1, _, by go_num, by omega, HY2.out, by rw [HE.out]; exact HRo.out, by rw [HE.out]; exact HFz.out⟩
            case measure => simp [intOf]; omega
          · have HFR := Lib.hid hfr
            have hbn : ((n : Int) != (n : Int)) = false := by simp
            have hbe : ((ee : Int) != (ee : Int)) = false := by simp
            clear hrow hfr hY
            go_wp2_with fail
            refine (show Calls _ _ _ _ _ from CL.out _ HFR.out).mono ?_
            rintro e w9 ⟨rfl, hf9⟩
            have HF9 := Lib.hid (HFR.out.then_ hf9 fun _ _ h => h.elim)
            clear hf9
            go_wp2_with fail
            refine (show Calls _ _ _ _ _ from CE.out _ HF9.out).mono ?_
            rintro e w10 ⟨rfl, hf10⟩
            have HF10 := Lib.hid (HF9.out.then_ hf10 fun _ _ h => h.elim)
            clear hf10
            go_wp2_with fail
            go_loopw [10, 104] (fun r i wq => ∃ k : Nat, i = .int .i64 k ∧ r = .int .i64 ((startsN ee l k).length : Int) ∧ k ≤ n ∧ Fr (One g) w8 wq) (fun _ i _ => n - (intOf i).toNat)
            case atStart => exact ⟨0, rfl, rfl, Nat.zero_le _, HF10.out⟩
            case round =>
              clear HF9 HF10
              obtain ⟨j, rfl, rfl, hj, hfq⟩ := hrel
              have HFQ := Lib.hid hfq
              clear hfq
              by_cases hlt2 : j < n
              · have hjl : j < l.length := by rw [HN.out]; exact hlt2
                obtain ⟨b, o, _, rfl, hxs⟩ := HPT.out.keep HFQ.out HTg.out (by omega)
                have hx := hxs j hjl
                have hat : atP l (j : Int) = l.getD j pr0 := by
                  unfold atP
                  rw [if_pos ⟨by omega, by omega⟩, Int.toNat_natCast]
                have D1 := Lib.hid (fun w' f => CA.out w' f (j : Int) (by simp [Lit.wf, IntKind.min, IntKind.max, IntKind.signed, IntKind.bits]; omega))
                rw [hat] at D1
                unfold prV at D1
                have HST : Hid ((startsN ee l (j + 1)).length = if j % ee = 0 then (startsN ee l j).length + 1 else (startsN ee l j).length) := Lib.hid (by
                  show (if j % ee = 0 then startsN ee l j ++ [(pairsB ee l j).length] else startsN ee l j).length = _
                  split <;> simp)
                have hq80 := startsN_len ee l j
                generalize (startsN ee l j).length = q at HST hq80 ⊢
                generalize l.getD j pr0 = u at hx D1
                obtain ⟨c0, c1⟩ := hx
                clear hxs hat
                obtain ⟨W, hW⟩ : ∃ W, wr.alloc (.cells #[.string u.key, .string u.val] 39) = W := ⟨_, rfl⟩
                obtain ⟨B, hB⟩ : ∃ B, wr.heap.size = B := ⟨_, rfl⟩
                have g0 : W.cell? ⟨B, 0, none⟩ = some (.string u.key) := by rw [← hW, ← hB, cell_of_row _ _ _ _ _ _ (heap_alloc_new _ _)]; rfl
                have g1' : W.cell? ⟨B, 0 + 1, none⟩ = some (.string u.val) := by rw [← hW, ← hB, cell_of_row _ _ _ _ _ _ (heap_alloc_new _ _)]; rfl
                have hfx : Fr (One g) w8 W.drew := by rw [← hW]; exact (HFQ.out.alloc _).drew
                have e0 : (u.key.toList == u.key.toList) = true := beq_self_eq_true _
                have e1 : (u.val.toList == u.val.toList) = true := beq_self_eq_true _
                have HW := Lib.hid hW
                have HB := Lib.hid hB
                clear hW hB
                have z0 : ¬ (ee : Int) = 0 := by omega
                by_cases hc : j % ee = 0
                · have r1 : Int.tmod (j : Int) (ee : Int) = 0 := by rw [← Int.ofNat_tmod, hc]; rfl
                  have hst := HST.out
                  rw [if_pos hc] at hst
                  have HS2 := Lib.hid hst
                  clear hst HST hc
                  go_wp2_with fail
                  simp only [HW.out, HB.out]
                  go_region_held3 (fun w' => w'.cell? ⟨B, 0, none⟩ = some (.string u.key) ∧ w'.cell? ⟨B, 0 + 1, none⟩ = some (.string u.val) ∧ Fr (One g) w8 w') (first | assumption | go_keep)
                    (first
                      | (go_at_call 19; (with_reducible refine (D1.out _ hfx).mono ?_); intro e w6 hret; obtain ⟨rfl, hf6⟩ := hret
                         have g0 := hf6.cell (p := ⟨B, 0, none⟩) g0 (fun h => h)
                         have g1' := hf6.cell (p := ⟨B, 0 + 1, none⟩) g1' (fun h => h)
                         have hfx := hfx.then_ hf6 (fun _ _ h => h.elim)
                         clear hf6))
                  have HFX := Lib.hid hfx
                  clear hfx
                  go_wp2_with fail
                  go_roundw
                  case rel => exact ⟨j + 1, by simp, by rw [HS2.out]; simp, by omega, HFX.out⟩
                  case measure => simp [intOf]; omega
                · have r1 : Int.tmod (j : Int) (ee : Int) = ((j % ee : Nat) : Int) := (Int.ofNat_tmod j ee).symm
                  have r0 : (((j % ee : Nat) : Int) == 0) = false := by
                    rw [beq_eq_false_iff_ne]
                    generalize j % ee = r at hc ⊢
                    omega
                  have hst := HST.out
                  rw [if_neg hc] at hst
                  have HS2 := Lib.hid hst
                  clear hst HST hc
                  go_wp2_with fail
                  simp only [HW.out, HB.out]
                  go_region_held3 (fun w' => w'.cell? ⟨B, 0, none⟩ = some (.string u.key) ∧ w'.cell? ⟨B, 0 + 1, none⟩ = some (.string u.val) ∧ Fr (One g) w8 w') (first | assumption | go_keep)
                    (first
                      | (go_at_call 19; (with_reducible refine (D1.out _ hfx).mono ?_); intro e w6 hret; obtain ⟨rfl, hf6⟩ := hret
                         have g0 := hf6.cell (p := ⟨B, 0, none⟩) g0 (fun h => h)
                         have g1' := hf6.cell (p := ⟨B, 0 + 1, none⟩) g1' (fun h => h)
                         have hfx := hfx.then_ hf6 (fun _ _ h => h.elim)
                         clear hf6))
                  have HFX := Lib.hid hfx
                  clear hfx
                  go_wp2_with fail
                  go_roundw
                  case rel => exact ⟨j + 1, by simp, by rw [HS2.out], by omega, HFX.out⟩
                  case measure => simp [intOf]; omega
              · obtain rfl : j = n := by omega
                have D1 : Hid (∀ w', Fr (One g) w8 w' → Calls Try.prog 19 #[.pointer (some ⟨x, 0, none⟩), .int .i64 (-1)] w' (PlainRet (.agg #[.string ⟨#[]⟩, .string ⟨#[]⟩]) w')) := Lib.hid fun w' f => by
                  have h := CA.out w' f (-1) (by decide)
                  have ha : atP l (-1) = pr0 := by unfold atP; rw [if_neg (by omega)]
                  rw [ha] at h
                  exact h
                have D2 : Hid (∀ w', Fr (One g) w8 w' → Calls Try.prog 19 #[.pointer (some ⟨x, 0, none⟩), .int .i64 (j : Int)] w' (PlainRet (.agg #[.string ⟨#[]⟩, .string ⟨#[]⟩]) w')) := Lib.hid fun w' f => by
                  have h := CA.out w' f (j : Int) (by simp [Lit.wf, IntKind.min, IntKind.max, IntKind.signed, IntKind.bits]; omega)
                  have ha : atP l (j : Int) = pr0 := by
                    unfold atP
                    rw [if_neg (by rw [HN.out]; omega)]
                  rw [ha] at h
                  exact h
                generalize (startsN ee l j).length = q at CQ ⊢
                have hqq : ((q : Int) == (q : Int)) = true := by simp
                go_wp2_with fail
                refine (show Calls _ _ _ _ _ from CQ.out _ HFQ.out).mono ?_
                rintro e w11 ⟨rfl, hf11⟩
                have HF11 := Lib.hid (HFQ.out.then_ hf11 fun _ _ h => h.elim)
                clear hf11
                go_wp2_with fail
                refine (show Calls _ _ _ _ _ from D1.out _ HF11.out).mono ?_
                rintro e w12 ⟨rfl, hf12⟩
                have HF12 := Lib.hid (HF11.out.then_ hf12 fun _ _ h => h.elim)
                clear hf12
                go_wp2_with fail
                refine (show Calls _ _ _ _ _ from D2.out _ HF12.out).mono ?_
                rintro e w13 ⟨rfl, hf13⟩
                have HF13 := Lib.hid (HF12.out.then_ hf13 fun _ _ h => h.elim)
                clear hf13
                go_wp2_with fail
                refine (AW.out _).mono ?_
                rintro e w14 ⟨rfl, hf14⟩
                have HF14 := Lib.hid ((HND.out _ HF13.out).trans hf14)
                clear hf14
                go_wp2_with fail
                go_ret
                exact ⟨rfl, HF14.out⟩
      · have dO : decide (ordP l) = false := decide_eq_false ho
        rw [dO] at CO
        have hE : buildE l (ee : Int) = 31 := by unfold buildE; rw [if_neg (by omega), if_neg ho]
        have hB0 : buildB l (ee : Int) = [] := by unfold buildB; rw [if_neg (by rw [hE]; omega)]
        have HE31 := Lib.hid hE
        have HB31 := Lib.hid hB0
        clear ho dO hE hB0
        go_enter Try.func3, Try.ntmps3
        go_wp2_with fail
        refine (show Calls _ _ _ _ _ from CS.out).mono ?_
        rintro e w1 ⟨rfl, hf1⟩
        have HF1 := Lib.hid hf1
        clear hf1
        go_wp2_with fail
        refine (show Calls _ _ _ _ _ from CB.out _ HF1.out).mono ?_
        rintro e w2 ⟨v2, rfl, hr2, hf2⟩
        rw [HB31.out] at hr2
        obtain ⟨a2, c2, rfl, _, _, _⟩ := hr2.form
        rw [HE31.out, List.length_nil]
        have HF2 := Lib.hid (HF1.out.trans hf2)
        clear hr2 hf2
        go_wp2_with fail
        refine (show Calls _ _ _ _ _ from CR.out _ HF2.out).mono ?_
        rintro e w3 ⟨v3, rfl, hr3, hf3⟩
        obtain ⟨a3, c3, rfl, _, _, hp3⟩ := hr3.prs
        have HF3 := Lib.hid (HF2.out.trans hf3)
        have C3 := Lib.hid (CO.out w3 _ a3 c3 hp3)
        rw [HN.out]
        clear hr3 hf3 hp3
        go_wp2_with fail
        refine (show Calls _ _ _ _ _ from C3.out).mono ?_
        rintro e w4 ⟨rfl, hf4⟩
        have HF4 := Lib.hid (HF3.out.trans hf4)
        clear hf4 C3
        go_wp2_with fail
        refine (AW.out _).mono ?_
        rintro e w5 ⟨rfl, hf5⟩
        go_wp2_with fail
        go_ret
        exact ⟨rfl, HF4.out.trans hf5⟩
    · have hE : buildE l ev = 70 := by unfold buildE; rw [if_pos (by omega)]
      have hB0 : buildB l ev = [] := by unfold buildB; rw [if_neg (by rw [hE]; omega)]
      have HE70 := Lib.hid hE
      have HB70 := Lib.hid hB0
      have hg' : ev < 1 ∨ (¬ ev < 1 ∧ 64 < ev) := by omega
      clear hE hB0 hg
      rcases hg' with g1 | ⟨g1, g2⟩
      all_goals
        go_enter Try.func3, Try.ntmps3
        go_wp2_with fail
        refine (show Calls _ _ _ _ _ from CS.out).mono ?_
        rintro e w1 ⟨rfl, hf1⟩
        have HF1 := Lib.hid hf1
        clear hf1
        go_wp2_with fail
        refine (show Calls _ _ _ _ _ from CB.out _ HF1.out).mono ?_
        rintro e w2 ⟨v2, rfl, hr2, hf2⟩
        rw [HB70.out] at hr2
        obtain ⟨a2, c2, rfl, _, _, _⟩ := hr2.form
        rw [HE70.out, List.length_nil]
        have HF2 := Lib.hid (HF1.out.trans hf2)
        clear hr2 hf2
        go_wp2_with fail
        refine (AW.out _).mono ?_
        rintro e w5 ⟨rfl, hf5⟩
        go_wp2_with fail
        go_ret
        exact ⟨rfl, HF2.out.trans hf5⟩
  · have dS : decide (Small12 l) = false := decide_eq_false hs
    rw [dS] at CS
    clear dS hs
    go_enter Try.func3, Try.ntmps3
    go_wp2_with fail
    refine (show Calls _ _ _ _ _ from CS.out).mono ?_
    rintro e w1 ⟨rfl, hf1⟩
    have HF1 := Lib.hid hf1
    clear hf1
    go_wp2_with fail
    refine (AW.out _).mono ?_
    rintro e w2 ⟨rfl, hf2⟩
    go_wp2_with fail
    go_ret
    exact ⟨rfl, HF1.out.trans hf2⟩
theorem blockBack_walk {X : World → Nat → (Nat → Prop) → List Pr → Nat → Prop} (H : BlockOK X) (w : World) (a : Option Addr) (cap : Nat) (l : List Pr) (hc : l.length ≤ cap) (hm : cap ≤ maxLen) (hp : Prs w (fun _ => True) a l) (hw : ∀ x ∈ l, PrWf x) (ev : Int) (wv : (Lit.int .i64 ev).wf = true) :
    Calls Try.prog 3 #[.slice a l.length cap, .int .i64 ev] w fun e w' => e = .returned (.bool true) ∧ Below w.heap.size w w' :=
  (back12_c H w a _ cap l ev wv rfl hc hm hp).mono fun _ _ h => ⟨h.1, h.2.below (Nat.le_refl _) (fun _ h => absurd h (fun h => h))⟩
end Go.Proofs.Ytiacdakaolghmaa
