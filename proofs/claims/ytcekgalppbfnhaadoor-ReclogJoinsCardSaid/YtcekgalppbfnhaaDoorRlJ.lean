/-
  The walk of the statement ReclogJoins.
-/
import Derived.Test.YtcekgalppbfnhaaDoorRlH
import Derived.Test.YtcekgalppbfnhaaDoorAppK
namespace Go.Proofs.YtcekgalppbfnhaaDoor
set_option linter.unusedVariables false
open Go.RowKit

theorem append_none (w : World) (base : Option Addr) (n cap : Nat) (h : n ≤ cap) (a : Option Addr) (c : Nat) :
    (Builtin.append_ #[25, 25] 25 #[.slice base n cap, .slice a 0 c]).run Tryd.prog w = .ok (.slice base n cap) w := by
  obtain ⟨i0, hi, hz0, hz1, hz2⟩ := info_parts rowTx.info
  cases a <;> cases base <;> simp [Builtin.append_, run_underlying rowTx.und, sizeOf, typeInfo, hi, Builtin.lenOf, Builtin.firstCells, loadCells, loadCellsFrom, storeCells, h]
theorem one_txC (l : List Tx) : ∀ u ∈ txC l, u.oneCell' = true := by
  intro u hu
  unfold txC at hu
  obtain ⟨p, _, rfl⟩ := List.mem_map.1 hu
  rfl
/-- Records appended to a row of the call's own. -/
theorem RowG.tx_append {w : World} {S : Nat → Prop} {v : Value} {o l : List Tx} {a : Option Addr} {c : Nat} (h : RowG w S 22 1 v o.length (txC o)) (hr : Recs w a l) (hn : o.length + l.length ≤ 1000000) :
    ∃ v' w', (Builtin.append_ #[25, 25] 25 #[v, .slice a l.length c]).run Tryd.prog w = .ok v' w' ∧ RowG w' (Gr S w w') 22 1 v' (o ++ l).length (txC (o ++ l)) ∧ Fr S w w' := by
  rcases Nat.eq_zero_or_pos l.length with h0 | h0
  · have hl : l = [] := List.eq_nil_of_length_eq_zero h0
    subst hl
    obtain ⟨ba, cap, rfl, h1, _⟩ := h.form
    refine ⟨_, w, append_none w ba o.length cap h1 a c, ?_, Fr.refl S w⟩
    rw [List.append_nil]
    exact h.sub fun x _ hx => .inl hx
  · obtain ⟨i0, hi, hz0, hz1, hz2⟩ := info_parts rowTx.info
    obtain ⟨b, off, rfl, hcells⟩ := hr h0
    obtain ⟨v', w', hrun, h2, h3, _, h5⟩ := run_append_own_at (P := Tryd.prog) w 0 25 25 22 i0 (.slice none 0 0) 1 24 rowTx.und hi hz0 hz1 hz2 rowTx.zc rowTx.pos v o.length (txC o) h.1
      ⟨b, off, none⟩ l.length c (txC l) (by unfold txC; simp) (fun j u hu => by
        unfold txC at hu
        rw [List.getElem?_map] at hu
        cases hx : l[j]? with
        | none => rw [hx] at hu; cases hu
        | some x =>
          rw [hx] at hu
          obtain rfl := Option.some.inj hu
          rw [add_at]
          exact (hcells j x hx).c0) (one_txC l) (by unfold maxLen; omega) (by omega) (Nat.zero_le _)
    have hf3 := Fr.grown h3 h.2
    refine ⟨v', w', hrun, ⟨?_, fun x hx => ?_⟩, hf3⟩
    · have e : txC (o ++ l) = txC o ++ txC l := by unfold txC; rw [List.map_append]
      rw [List.length_append, e]
      exact h2
    · rcases h5 with h5 | h5
      · exact .inl (h.2 x (h5 ▸ hx))
      · rw [h5] at hx
        have hk : w.heap.size = x := Option.some.inj hx
        have h6 := (h2.lt x (by rw [h5, hk])).2
        exact .inr ⟨by omega, h6⟩
theorem RowG.recs {w : World} {S : Nat → Prop} {v : Value} {l : List Tx} (h : RowG w S 22 1 v l.length (txC l)) (hr : ∀ x ∈ l, Rd w x.a x.b) : ∃ a cap, v = .slice a l.length cap ∧ l.length ≤ cap ∧ cap ≤ maxLen ∧ Recs w a l := by
  obtain ⟨a, cap, rfl, h1, h2, h3, h4⟩ := h.form
  refine ⟨a, cap, rfl, h1, h2, fun h0 => ?_⟩
  obtain ⟨b, _, rfl, hc⟩ := h4 h0
  refine ⟨b, 0, rfl, fun i x hx => ?_⟩
  have hi : i < l.length := (List.getElem?_eq_some_iff.1 hx).1
  refine ⟨?_, hr x (List.mem_of_getElem? hx)⟩
  rw [Nat.zero_add, (hc i (by omega)).1]
  unfold txC
  rw [List.getElem?_map, hx]
  rfl
theorem Recs.all {w : World} {a : Option Addr} {l : List Tx} (h : Recs w a l) : ∀ x ∈ l, Rd w x.a x.b := fun x hx => by
  obtain ⟨i, hi, rfl⟩ := List.mem_iff_getElem.1 hx
  obtain ⟨b, o, _, hb⟩ := h (by omega)
  exact (hb i _ (List.getElem?_eq_getElem hi)).rd
theorem scan_frames (zs : List (List UInt8)) (h : (framesL zs).length ≤ 1000000) : scanL (framesL zs) = zs := scanL_eq (by omega) ⟨[], (List.append_nil _).symm, headF_short (by decide)⟩
theorem frames_all_le : ∀ (l : List Tx), (∀ (j : Nat) (x : Tx), l[j]? = some x → x.b.length ≤ 300) → (framesL (l.map Tx.b)).length ≤ l.length * 313
  | [], _ => by simp [framesL]
  | x :: xs, h => by
    have ih := frames_all_le xs fun j y hy => h (j + 1) y hy
    have h1 := h 0 x rfl
    have h2 := sizeL_le (n := x.b.length) (by omega)
    show (frameL x.b ++ framesL (xs.map Tx.b)).length ≤ _
    rw [List.length_append, frameL_length, List.length_cons]
    omega
theorem row_none (w : World) : RowG (w.alloc (.cells #[] 22)) (From w.heap.size) 22 1 (.slice (some ⟨w.heap.size, 0, none⟩) 0 0) ([] : List Tx).length (txC []) :=
  ⟨⟨rfl, .inr ⟨w.heap.size, 0, #[], rfl, Nat.zero_le _, heap_alloc_new w _, Nat.le_refl _, by simp [maxLen], rfl, rfl⟩⟩, fun k hk => by
    have : w.heap.size = k := Option.some.inj hk
    subst this
    exact Nat.le_refl _⟩
set_option maxRecDepth 20000 in
set_option maxHeartbeats 3200000 in
theorem reclogJoins_walk (W : World) (ht : Tab W) (a : Option Addr) (len cap : Nat) (bs : List UInt8) (hl : bs.length = len) (hc : len ≤ cap) (hm : cap ≤ maxLen) (hr : Rd W a bs) (a1 : Option Addr) (c1 : Nat) (l : List Tx) (hc1 : l.length ≤ c1) (hm1 : c1 ≤ maxLen) (hr1 : Texts W a1 l) :
    Calls Tryd.prog 7 #[.slice a len cap, .slice a1 l.length c1] W fun e W' => e = .returned (.bool true) ∧ Below W.heap.size W W' := by
  refine Calls.mono (R := Ask (.bool true) W) ?_ fun e w' h => h.post
  have CS := small9_c a1 c1 l 20 W (Nat.le_trans hc1 hm1) hr1
  unfold maxLen at hm hm1
  have CA := Lib.hid (fun w (f : Fr No W w) => awake9_c w (ht.keep f (fun h => h)))
  by_cases h2 : 2000 < len
  · have d2 : decide ((2000 : Int) < (len : Int)) = true := by rw [decide_eq_true_eq]; omega
    have CA := Lib.hid (CA.out W (Fr.refl _ _))
    clear ht hr hl CS hr1
    generalize l.length = n at *
    go_enter Tryd.func7, Tryd.ntmps7
    go_wp2_with fail
    refine (show Calls _ _ _ _ _ from CA.out).mono ?_
    rintro e w1 ⟨rfl, hf⟩
    go_wp2_with fail
    go_ret
    exact ⟨rfl, hf⟩
  have d2 : decide ((2000 : Int) < (len : Int)) = false := by rw [decide_eq_false_iff_not]; omega
  cases hsm : small9 l 20 with
  | false =>
    rw [hsm] at CS
    have CS := Lib.hid CS
    have CA := Lib.hid (CA.out W (Fr.refl _ _))
    clear ht hr hl hr1 hsm
    generalize l.length = n at *
    go_enter Tryd.func7, Tryd.ntmps7
    go_wp2_with fail
    refine (show Calls _ _ _ _ _ from CS.out).mono ?_
    rintro e w1 ⟨rfl, rfl⟩
    go_wp2_with fail
    refine (show Calls _ _ _ _ _ from CA.out).mono ?_
    rintro e w1 ⟨rfl, hf⟩
    go_wp2_with fail
    go_ret
    exact ⟨rfl, hf⟩
  | true =>
    rw [hsm] at CS
    have CS := Lib.hid CS
    obtain ⟨h20, h300⟩ := small9_yes hsm
    have C1 := Lib.hid (scan_c a len cap bs W hl (by omega) hc hr ht)
    have HSC := scanL_is bs
    have HLE := HSC.le
    have HTK := Lib.hid HSC.take
    have HCNT := framesL_count (scanL bs)
    have CFR := Lib.hid (fun (x : Tx) (n : Nat) (h : x.b.length = n) (hn : n ≤ 1000000) (w : World) (f : Fr No W w) (hr : Rd w x.a x.b) => frame_c x.a n x.c x.b w h hn hr (ht.keep f (fun h => h)))
    have CSC := Lib.hid (fun (a : Option Addr) (n c : Nat) (b : List UInt8) (w : World) (f : Fr No W w) (h : b.length = n) (hn : n ≤ 100000) (hc : n ≤ c) (hr : Rd w a b) => scan_c a n c b w h hn hc hr (ht.keep f (fun h => h)))
    have H300 := Lib.hid h300
    have HALL := frames_all_le l h300
    have HREC := Lib.hid hr1.recs
    have HR := Lib.hid hr
    have HL := Lib.hid hl
    rw [hl] at HLE
    obtain ⟨E, hE⟩ : ∃ E, (framesL (scanL bs)).length = E := ⟨_, rfl⟩
    rw [hE] at HLE HCNT HTK
    have HEQ := Lib.hid hE
    have KC : ∀ w, (Instr.slice 22 (.slice a len cap) none (some (.int .i64 (E : Int))) none).run Tryd.prog w = .ok (.slice a E cap) w := fun w => cut_hi (P := Tryd.prog) Tryd.underlying22 sizeU8 a len cap E (by omega) w
    have hel : (bs.take E).length = E := by rw [List.length_take, hl]; omega
    have C2 := Lib.hid (fun w (f : Fr No W w) => copyRef_c a E cap (bs.take E) w hel (by omega) ((hr.keep f).take E))
    rw [HTK.out] at C2
    have HTOT : Hid (∀ j, (framesL (scanL bs ++ (l.take j).map Tx.b)).length ≤ 10000) := Lib.hid fun j => by
      rw [framesL_append, List.length_append, HEQ.out]
      have q := framesL_take_le (l.map Tx.b) j
      rw [← List.map_take] at q
      omega
    obtain ⟨n, hn⟩ : ∃ n, l.length = n := ⟨_, rfl⟩
    have HN := Lib.hid hn
    rw [hn] at CS hc1 h20
    rw [hn]
    clear ht hr hl hr1 hsm hn h300 HSC hE hel HALL
    go_enter Tryd.func7, Tryd.ntmps7
    go_wp2_with fail
    refine (show Calls _ _ _ _ _ from CS.out).mono ?_
    rintro e w1 ⟨rfl, rfl⟩
    go_wp2_with fail
    refine (show Calls _ _ _ _ _ from C1.out).mono ?_
    rintro e w1 ⟨v1, xs, rfl, htx, hxs, hf1⟩
    obtain ⟨xa, xc, rfl, x1, x2, hrec⟩ := htx.texts
    rw [HEQ.out]
    have C2 := Lib.hid (C2.out w1 hf1)
    have HXR := Lib.hid hrec
    have HF1 := Lib.hid hf1
    have HXS := Lib.hid hxs
    obtain ⟨xn, hxn⟩ : ∃ n, xs.length = n := ⟨_, rfl⟩
    rw [hxn] at x1
    rw [hxn]
    have hnl : xn ≤ 2000 := by
      rw [← hxs, List.length_map, hxn] at HCNT
      omega
    have HXN := Lib.hid hxn
    unfold maxLen at x2
    clear htx hrec hxs hf1 C1 hxn HCNT
    go_wp2_with fail
    refine (show Calls _ _ _ _ _ from C2.out).mono ?_
    rintro e w2 ⟨v2, rfl, hrow2, hf2⟩
    have HROW2 := Lib.hid hrow2
    have HF2 := Lib.hid hf2
    clear hrow2 hf2 C2
    go_wp2_with fail
    go_loopw [7, 32] (fun v i wr => ∃ j : Nat, i = .int .i64 j ∧ j ≤ n ∧ Row wr (Gr No w1 wr) v (framesL (scanL bs ++ (l.take j).map Tx.b)) ∧ Fr No w1 wr) (fun _ i _ => n - (intOf i).toNat)
    case atStart => exact ⟨0, rfl, Nat.zero_le _, by rw [List.take_zero, List.map_nil, List.append_nil]; exact HROW2.out, HF2.out⟩
    case round =>
      obtain ⟨j, rfl, hj, hrow, hfr⟩ := hrel
      have hAL := HTOT.out j
      have HFA := Lib.hid (HF1.out.trans hfr)
      have HFR := Lib.hid hfr
      have HROW := Lib.hid hrow
      by_cases h1 : j < n
      · have d1 : decide ((j : Int) < (n : Int)) = true := by rw [decide_eq_true_eq]; omega
        obtain ⟨b, o, rfl, hx⟩ := HREC.out (by rw [HN.out]; omega)
        obtain ⟨x, hxj⟩ : ∃ x, l[j]? = some x := ⟨_, List.getElem?_eq_getElem (by rw [HN.out]; exact h1)⟩
        have qx := (hx j x hxj).keep HFA.out
        have c0 := qx.c0
        have hle := H300.out j x hxj
        obtain ⟨m, hmx⟩ : ∃ m, x.b.length = m := ⟨_, rfl⟩
        rw [hmx] at c0 hle
        have C5 := Lib.hid (CFR.out x m hmx (by omega) wr HFA.out qx.rd)
        have HST := Lib.hid (take_map_snoc hxj)
        obtain ⟨va, vn, vc, rfl⟩ := hrow.shape
        clear hrow hfr hx hxj qx
        obtain ⟨za, zc, zb⟩ := x
        simp only at c0 C5 HST hmx
        have HM := Lib.hid hmx
        clear hmx
        go_wp2_with fail
        refine (show Calls _ _ _ _ _ from C5.out).mono ?_
        rintro e w5 ⟨v5, rfl, r5, f5⟩
        obtain ⟨fa, fc, rfl, g1, g2, gin⟩ := r5.form
        obtain ⟨fl, hfl⟩ : ∃ n, (frameL zb).length = n := ⟨_, rfl⟩
        have hflb := frameL_length zb
        have hflc := sizeL_le (n := zb.length) (by rw [HM.out]; omega)
        rw [HM.out] at hflb hflc
        rw [hfl] at hflb
        rw [hfl]
        obtain ⟨v', W6, hrun, hrow6, hf6⟩ := (HROW.out.keep f5 (fun _ _ h => h)).append fa fl fc (frameL zb) hfl gin.rd (by omega)
        have HRUN := Lib.hid hrun
        have HR6 := Lib.hid (hrow6.on HFR.out.size f5.size hf6.size)
        have HF6 := Lib.hid ((HFR.out.trans f5).then_ hf6 fun k hk h => h.elim (fun h => h.elim) fun h => by omega)
        have hst : framesL (scanL bs ++ (l.take j).map Tx.b) ++ frameL zb = framesL (scanL bs ++ (l.take (j + 1)).map Tx.b) := by rw [HST.out, ← framesL_snoc, List.append_assoc]
        rw [hst] at HR6
        clear r5 f5 gin hrun hrow6 hf6 hst hfl hflb hflc C5
        go_wp2_with (at_builtin; refine wpList_append_run rfl _ _ 22 rfl rfl rfl HRUN.out ?_)
        go_roundw
        case rel => exact ⟨j + 1, by simp, by omega, HR6.out, HF6.out⟩
        case measure => simp [intOf]; omega
      · obtain rfl : j = n := by omega
        have d1 : decide ((j : Int) < (j : Int)) = false := by simp
        have hfull : (l.take j).map Tx.b = l.map Tx.b := by rw [List.take_of_length_le (by rw [HN.out]; exact Nat.le_refl _)]
        obtain ⟨va, vc, rfl, v1, v2, vin⟩ := hrow.form
        rw [hfull] at vin v1 hAL ⊢
        have HSF := Lib.hid (scan_frames (scanL bs ++ l.map Tx.b) (by omega))
        obtain ⟨F, hF⟩ : ∃ F, (framesL (scanL bs ++ l.map Tx.b)).length = F := ⟨_, rfl⟩
        rw [hF] at v1 hAL ⊢
        have C6 := Lib.hid (CSC.out va F vc _ wr HFA.out hF (by omega) v1 vin.rd)
        rw [show ScanRet (framesL (scanL bs ++ l.map Tx.b)) = ScanRet (framesL (scanL bs ++ l.map Tx.b)) from rfl] at C6
        have HFE := Lib.hid hF
        unfold maxLen at v2
        have HXR6 := Lib.hid (HXR.out.keep HFR.out)
        have HLR6 := Lib.hid (HREC.out.keep HFA.out)
        clear hrow hfr hfull vin hF HROW HXR HREC
        go_wp2_with fail
        refine (show Calls _ _ _ _ _ from C6.out).mono ?_
        rintro e w6 ⟨v6, gs, rfl, htg, hgs, hf6⟩
        rw [HSF.out] at hgs ⊢
        rw [HFE.out]
        obtain ⟨ga, gc, rfl, g1, g2, grec⟩ := htg.texts
        obtain ⟨gn, hgn⟩ : ∃ n, gs.length = n := ⟨_, rfl⟩
        have hgl : gn = xn + j := by
          have z := congrArg List.length hgs
          rw [List.length_map, List.length_append, ← HXS.out, List.length_map, List.length_map, hgn, HXN.out, HN.out] at z
          exact z
        rw [hgn] at g1 ⊢
        -- the list of both
        have f7 := (Fr.refl No w6).alloc (.cells #[] 22)
        have R0 := row_none w6
        obtain ⟨W7, hW7⟩ : ∃ W, w6.alloc (.cells #[] 22) = W := ⟨_, rfl⟩
        rw [hW7] at f7 R0
        have X7 := (HXR6.out.keep hf6).keep f7
        have L7 := (HLR6.out.keep hf6).keep f7
        obtain ⟨v8, W8, hrun8, hrow8, hf8⟩ := R0.tx_append (c := xc) X7 (by rw [HXN.out]; simp; omega)
        rw [List.nil_append] at hrow8
        have f8 : Fr No w6 W8 := f7.then_ hf8 fun k hk h => by
          have h : w6.heap.size ≤ k := h
          omega
        have B8 : ∀ k, v8.ownBlock = some k → w6.heap.size ≤ k := fun k hk => (hrow8.2 k hk).elim (fun h => h) fun h => by
          have := f7.size
          omega
        have row8 : RowG W8 (Own1 v8) 22 1 v8 xs.length (txC xs) := ⟨hrow8.1, fun k hk => hk⟩
        have X8 := (HXR6.out.keep hf6).keep f8
        have L8 := (HLR6.out.keep hf6).keep f8
        obtain ⟨v9, W9, hrun9, hrow9, hf9⟩ := row8.tx_append (c := c1) L8 (by rw [HXN.out, HN.out]; omega)
        have f9 : Fr No w6 W9 := f8.then_ hf9 fun k hk h => by
          have := B8 k h
          omega
        obtain ⟨pa, pc, rfl, p1, p2, prec⟩ := hrow9.recs (fun x hx => by
          rcases List.mem_append.1 hx with hx | hx
          · exact (((HXR6.out.keep hf6).keep f9).all x hx)
          · exact (((HLR6.out.keep hf6).keep f9).all x hx))
        have hpl : (xs ++ l).length = gn := by rw [List.length_append, HXN.out, HN.out, hgl]
        rw [hpl] at hrun9 p1
        have HS := sameT_c ga pa gn gc gn pc gs (xs ++ l) W9 hgn hpl (by omega) (by omega) (grec.keep f9) prec
        rw [show (gs.map Tx.b == (xs ++ l).map Tx.b) = true by
          rw [hgs, List.map_append, HXS.out]
          exact beq_self_eq_true _, hgl] at HS
        have HS := Lib.hid HS
        rw [HXN.out] at hrun8
        rw [HN.out] at hrun9
        rw [← hW7] at hrun8
        obtain ⟨ea, en, ec, rfl⟩ : ∃ a n c, v8 = .slice a n c := by
          obtain ⟨a, c, h, _⟩ := row8.form
          exact ⟨a, _, c, h⟩
        have HRUN8 := Lib.hid hrun8
        have HRUN9 := Lib.hid hrun9
        have HF9 := Lib.hid ((HFA.out.trans hf6).trans f9)
        clear htg hgs hf6 grec hgn f7 R0 hW7 X7 L7 hrun8 hrow8 hf8 f8 B8 row8 X8 L8 hrun9 hrow9 hf9 f9 prec hpl C6 HXR6 HLR6
        have e1 : ((F : Int) == (F : Int)) = true := by simp
        go_wp2_with (first
          | (at_builtin; refine wpList_append_runG rfl _ _ 25 rfl rfl rfl HRUN8.out ?_; clear HRUN8)
          | (at_builtin; refine wpList_append_runG rfl _ _ 25 rfl rfl rfl HRUN9.out ?_))
        refine (show Calls _ _ _ _ _ from HS.out).mono ?_
        rintro e w10 ⟨rfl, hf10⟩
        have CA10 := Lib.hid (CA.out w10 (HF9.out.trans hf10))
        have HF10 := Lib.hid (HF9.out.trans hf10)
        clear hf10 HS
        go_wp2_with fail
        refine (show Calls _ _ _ _ _ from CA10.out).mono ?_
        rintro e w11 ⟨rfl, hf11⟩
        go_wp2_with fail
        go_ret
        exact ⟨rfl, HF10.out.trans hf11⟩
end Go.Proofs.YtcekgalppbfnhaaDoor
