/-
  The walks of the statements ReclogFrames and ReclogScans.
-/
import Derived.Test.YtcekgalppbfnhaaDoorRlG
namespace Go.Proofs.YtcekgalppbfnhaaDoor
set_option linter.unusedVariables false
open Go.RowKit

theorem scan_frame (l : List UInt8) (h : l.length ≤ 1000000) : scanL (frameL l) = [l] := scanL_eq (by
    rw [frameL_length]
    have := sizeL_le (n := l.length) (by omega)
    omega) ⟨[], by
  show frameL l = (frameL l ++ []) ++ []
  rw [List.append_nil, List.append_nil], headF_short (by decide)⟩
set_option maxRecDepth 20000 in
set_option maxHeartbeats 2000000 in
theorem reclogFrames_walk (W : World) (ht : Tab W) (a : Option Addr) (len cap : Nat) (l : List UInt8) (hl : l.length = len) (hc : len ≤ cap) (hm : cap ≤ maxLen) (hr : Rd W a l) :
    Calls Tryd.prog 3 #[.slice a len cap] W fun e W' => e = .returned (.bool true) ∧ Below W.heap.size W W' := by
  refine Calls.mono (R := Ask (.bool true) W) ?_ fun e w' h => h.post
  unfold maxLen at hm
  have CA := Lib.hid (fun w (f : Fr No W w) => awake9_c w (ht.keep f (fun h => h)))
  by_cases h5 : 5000 < len
  · have d5 : decide ((5000 : Int) < (len : Int)) = true := by rw [decide_eq_true_eq]; omega
    have CA := Lib.hid (CA.out W (Fr.refl _ _))
    clear ht hr hl
    go_enter Tryd.func3, Tryd.ntmps3
    go_wp2_with fail
    refine (show Calls _ _ _ _ _ from CA.out).mono ?_
    rintro e w1 ⟨rfl, hf⟩
    go_wp2_with fail
    go_ret
    exact ⟨rfl, hf⟩
  · have d5 : decide ((5000 : Int) < (len : Int)) = false := by rw [decide_eq_false_iff_not]; omega
    have C1 := Lib.hid (frame_c a len cap l W hl (by omega) hr ht)
    have HSF := Lib.hid (scan_frame l (by omega))
    have HFL := Lib.hid (show (frameL l).length = sizeL len by rw [frameL_length, hl])
    have HONE : Hid ((framesL [l]).length = sizeL len) := Lib.hid (by
      show (frameL l ++ []).length = _
      rw [List.append_nil, frameL_length, hl])
    have hz := sizeL_le (n := len) (by omega)
    have CF := Lib.hid (fun w (f : Fr No W w) => refFrame_c a len cap l w hl (by omega) (hr.keep f))
    have CZ := Lib.hid (fun w => fsize_c len w (by omega))
    have CN := Lib.hid (fun w => fsize_neg (-1) w (by omega))
    have HR := Lib.hid hr
    have HL := Lib.hid hl
    have HT := Lib.hid ht
    generalize frameL l = fx at *
    generalize sizeL len = sz at *
    clear ht hr hl
    go_enter Tryd.func3, Tryd.ntmps3
    go_wp2_with fail
    refine (show Calls _ _ _ _ _ from C1.out).mono ?_
    rintro e w1 ⟨v, rfl, hrow, hf⟩
    obtain ⟨fa, fc, rfl, f1, f2, fin⟩ := hrow.form
    rw [HFL.out] at f1
    rw [HFL.out]
    have C2 := Lib.hid (scan_c fa sz fc fx w1 HFL.out (by omega) f1 fin.rd (HT.out.keep hf (fun h => h)))
    have HF1 := Lib.hid hf
    have HFI := Lib.hid fin.rd
    unfold maxLen at f2
    clear hrow hf fin C1
    go_wp2_with fail
    refine (show Calls _ _ _ _ _ from C2.out).mono ?_
    rintro e w2 ⟨v2, xs, rfl, htx, hxs, hf2⟩
    rw [HSF.out] at hxs ⊢
    rw [HONE.out]
    obtain ⟨xx, rfl, hxb⟩ := one_of hxs
    obtain ⟨ra, rc, rfl, r1, r2, hrec⟩ := htx.texts
    have HREC := Lib.hid (fun w (f : Fr No w2 w) => (hrec.keep f) (Nat.zero_lt_succ _))
    have HXB := Lib.hid hxb
    have C3 := Lib.hid (CF.out w2 (HF1.out.trans hf2))
    have HF2 := Lib.hid (HF1.out.trans hf2)
    have HFI2 := Lib.hid (HFI.out.keep hf2)
    clear htx hrec hxs hxb hf2 C2 HSF HONE HFI HF1
    simp only [List.length_cons, List.length_nil, Nat.zero_add] at r1 ⊢
    go_wp2_with fail
    refine (show Calls _ _ _ _ _ from C3.out).mono ?_
    rintro e w3 ⟨v3, rfl, hrow3, hf3⟩
    obtain ⟨ga, gc, rfl, g1, g2, gin⟩ := hrow3.form
    rw [HFL.out]
    have C4 := Lib.hid (same_yes (cap := fc) (cap' := gc) HFL.out HFL.out (HFI2.out.keep hf3) gin.rd rfl)
    obtain ⟨rb, ro, rfl, hat⟩ := HREC.out w3 hf3
    have hat := hat 0 xx rfl
    have c0 := hat.c0
    have hrd := hat.rd
    rw [HXB.out, HL.out] at c0
    rw [HXB.out] at hrd
    have HF3 := Lib.hid (HF2.out.trans hf3)
    have C5 := Lib.hid (same_yes (cap := xx.c) (cap' := cap) HL.out HL.out hrd (HR.out.keep HF3.out) rfl)
    have C6 := Lib.hid (CA.out w3 HF3.out)
    have C7 := Lib.hid (CZ.out w3)
    have C8 := Lib.hid (CN.out w3)
    clear hrow3 hf3 gin hat hrd C3 HREC HF2 HFI2 CF CZ CN CA HR HT
    generalize xx.a = xa at *
    generalize xx.c = xc at *
    simp only [Nat.add_zero] at c0
    clear HXB
    go_wp2_with fail
    refine (show Calls _ _ _ _ _ from C4.out).mono ?_
    rintro e w4 ⟨rfl, rfl⟩
    go_wp2_with fail
    refine (show Calls _ _ _ _ _ from C7.out).mono ?_
    rintro e w4 ⟨rfl, rfl⟩
    go_wp2_with fail
    refine (show Calls _ _ _ _ _ from C8.out).mono ?_
    rintro e w4 ⟨rfl, rfl⟩
    go_wp2_with fail
    refine (show Calls _ _ _ _ _ from C5.out).mono ?_
    rintro e w4 ⟨rfl, rfl⟩
    go_wp2_with fail
    refine (show Calls _ _ _ _ _ from C6.out).mono ?_
    rintro e w4 ⟨rfl, hf4⟩
    go_wp2_with fail
    go_ret
    exact ⟨rfl, HF3.out.trans hf4⟩
theorem Row.on {w1 wr w5 W : World} {v : Value} {l : List UInt8} (h : Row W (Gr (Gr No w1 wr) w5 W) v l) (h1 : w1.heap.size ≤ wr.heap.size) (h2 : wr.heap.size ≤ w5.heap.size) (h3 : w5.heap.size ≤ W.heap.size) : Row W (Gr No w1 W) v l :=
  h.sub fun k hk h => h.elim (fun h => h.elim (fun h => h.elim) fun h => .inr ⟨h.1, hk⟩) fun h => .inr ⟨by omega, hk⟩
theorem take_map_snoc {xs : List Tx} {j : Nat} {x : Tx} (h : xs[j]? = some x) : (xs.take (j + 1)).map Tx.b = (xs.take j).map Tx.b ++ [x.b] := by
  rw [List.take_add_one, h, List.map_append]
  rfl
theorem framesL_take_le (xs : List (List UInt8)) (j : Nat) : (framesL (xs.take j)).length ≤ (framesL xs).length := by
  have := congrArg List.length (framesL_append (xs.take j) (xs.drop j))
  rw [List.take_append_drop, List.length_append] at this
  omega
set_option maxRecDepth 20000 in
set_option maxHeartbeats 3200000 in
theorem reclogScans_walk (W : World) (ht : Tab W) (a : Option Addr) (len cap : Nat) (l : List UInt8) (hl : l.length = len) (hc : len ≤ cap) (hm : cap ≤ maxLen) (hr : Rd W a l) :
    Calls Tryd.prog 4 #[.slice a len cap] W fun e W' => e = .returned (.bool true) ∧ Below W.heap.size W W' := by
  refine Calls.mono (R := Ask (.bool true) W) ?_ fun e w' h => h.post
  unfold maxLen at hm
  have CA := Lib.hid (fun w (f : Fr No W w) => awake9_c w (ht.keep f (fun h => h)))
  by_cases h5 : 3000 < len
  · have d5 : decide ((3000 : Int) < (len : Int)) = true := by rw [decide_eq_true_eq]; omega
    have CA := Lib.hid (CA.out W (Fr.refl _ _))
    clear ht hr hl
    go_enter Tryd.func4, Tryd.ntmps4
    go_wp2_with fail
    refine (show Calls _ _ _ _ _ from CA.out).mono ?_
    rintro e w1 ⟨rfl, hf⟩
    go_wp2_with fail
    go_ret
    exact ⟨rfl, hf⟩
  · have d5 : decide ((3000 : Int) < (len : Int)) = false := by rw [decide_eq_false_iff_not]; omega
    have C1 := Lib.hid (scan_c a len cap l W hl (by omega) hc hr ht)
    have C2 := Lib.hid (fun w (f : Fr No W w) => refScan_c a len cap l w hl (by omega) hc (hr.keep f))
    have HSC := scanL_is l
    have HLE := HSC.le
    have HTK := Lib.hid HSC.take
    have HLF := Lib.hid (fun (x : Tx) (h : x.b ∈ scanL l) => framesL_le h)
    have HCNT := framesL_count (scanL l)
    have CFR := Lib.hid (fun (x : Tx) (n : Nat) (h : x.b.length = n) (hn : n ≤ 1000000) (w : World) (f : Fr No W w) (hr : Rd w x.a x.b) => frame_c x.a n x.c x.b w h hn hr (ht.keep f (fun h => h)))
    have HR := Lib.hid hr
    have HL := Lib.hid hl
    rw [hl] at HLE
    obtain ⟨E, hE⟩ : ∃ E, (framesL (scanL l)).length = E := ⟨_, rfl⟩
    rw [hE] at HLE HCNT HTK
    have HEQ := Lib.hid hE
    have KC : ∀ w, (Instr.slice 22 (.slice a len cap) none (some (.int .i64 (E : Int))) none).run Tryd.prog w = .ok (.slice a E cap) w := fun w => cut_hi (P := Tryd.prog) Tryd.underlying22 sizeU8 a len cap E (by omega) w
    clear ht hr hl HSC hE
    go_enter Tryd.func4, Tryd.ntmps4
    go_wp2_with fail
    refine (show Calls _ _ _ _ _ from C1.out).mono ?_
    rintro e w1 ⟨v1, xs, rfl, htx, hxs, hf1⟩
    obtain ⟨xa, xc, rfl, x1, x2, hrec⟩ := htx.texts
    rw [HEQ.out]
    have C2 := Lib.hid (C2.out w1 hf1)
    have HREC := Lib.hid hrec
    have HF1 := Lib.hid hf1
    have HXS := Lib.hid hxs
    obtain ⟨n, hn⟩ : ∃ n, xs.length = n := ⟨_, rfl⟩
    rw [hn] at x1
    rw [hn]
    have hnl : n ≤ 1000000 := by
      rw [← hxs, List.length_map, hn] at HCNT
      omega
    have HN := Lib.hid hn
    unfold maxLen at x2
    clear htx hrec hxs hf1 C1 hn HCNT
    go_wp2_with fail
    refine (show Calls _ _ _ _ _ from C2.out).mono ?_
    rintro e w2 ⟨v2, ys, rfl, hty, hys, hf2⟩
    obtain ⟨ya, yc, rfl, y1, y2, hrec2⟩ := hty.texts
    have hyl : ys.length = n := by
      have q := congrArg List.length (hys.trans HXS.out.symm)
      rw [List.length_map, List.length_map, HN.out] at q
      exact q
    rw [hyl] at y1
    rw [HEQ.out, hyl]
    have HS := sameT_c xa ya n xc n yc xs ys w2 HN.out hyl hnl hnl (HREC.out.keep hf2) hrec2
    rw [hys, HXS.out, beq_self_eq_true] at HS
    have HS := Lib.hid HS
    have HF2 := Lib.hid (HF1.out.trans hf2)
    have HREC2 := Lib.hid (HREC.out.keep hf2)
    have e1 : ((E : Int) != (E : Int)) = false := by simp
    clear hty hrec2 hys hf2 C2 HREC HF1 hyl y2
    go_wp2_with fail
    refine (show Calls _ _ _ _ _ from HS.out).mono ?_
    rintro e w3 ⟨rfl, hf3⟩
    have HF3 := Lib.hid (HF2.out.trans hf3)
    have HREC3 := Lib.hid (HREC2.out.keep hf3)
    clear hf3 HS HF2 HREC2
    go_wp2_with fail
    go_loopw [7, 35] (fun v i wr => ∃ j : Nat, i = .int .i64 j ∧ j ≤ n ∧ Row wr (Gr No w3 wr) v (framesL ((xs.take j).map Tx.b)) ∧ Fr No w3 wr) (fun _ i _ => n - (intOf i).toNat)
    case atStart => exact ⟨0, rfl, Nat.zero_le _, Row.nil _ _, Fr.refl _ _⟩
    case round =>
      obtain ⟨j, rfl, hj, hrow, hfr⟩ := hrel
      have hAL : (framesL ((xs.take j).map Tx.b)).length ≤ E := by
        have q := framesL_take_le (scanL l) j
        rw [← HXS.out, ← List.map_take, HXS.out, HEQ.out] at q
        exact q
      have HFA := Lib.hid (HF3.out.trans hfr)
      have HFR := Lib.hid hfr
      have HROW := Lib.hid hrow
      by_cases h1 : j < n
      · have d1 : decide ((j : Int) < (n : Int)) = true := by rw [decide_eq_true_eq]; omega
        obtain ⟨b, o, rfl, hx⟩ := HREC3.out (by rw [HN.out]; omega)
        obtain ⟨x, hxj⟩ : ∃ x, xs[j]? = some x := ⟨_, List.getElem?_eq_getElem (by rw [HN.out]; exact h1)⟩
        have qx := (hx j x hxj).keep hfr
        have c0 := qx.c0
        have hmem : x.b ∈ scanL l := by
          rw [← HXS.out]
          exact List.mem_map_of_mem (List.mem_of_getElem? hxj)
        have hle := HLF.out x hmem
        rw [HEQ.out] at hle
        obtain ⟨m, hmx⟩ : ∃ m, x.b.length = m := ⟨_, rfl⟩
        rw [hmx] at c0 hle
        have C5 := Lib.hid (CFR.out x m hmx (by omega) wr HFA.out qx.rd)
        have HST := Lib.hid (take_map_snoc hxj)
        obtain ⟨va, vn, vc, rfl⟩ := hrow.shape
        clear hrow hfr hx hxj qx hmem
        obtain ⟨za, zc, zb⟩ := x
        simp only at c0 C5 HST hmx
        have HM := Lib.hid hmx
        clear hmx
        go_wp2_with fail
        refine (show Calls _ _ _ _ _ from C5.out).mono ?_
        rintro e w5 ⟨v5, rfl, r5, f5⟩
        obtain ⟨fa, fc, rfl, g1, g2, gin⟩ := r5.form
        obtain ⟨fl, hfl⟩ : ∃ n, (frameL zb).length = n := ⟨_, rfl⟩
        have hflb := frameL_length zb
        have hflc := sizeL_le (n := zb.length) (by rw [HM.out]; omega)
        rw [HM.out] at hflb hflc
        rw [hfl] at hflb
        rw [hfl]
        obtain ⟨v', W6, hrun, hrow6, hf6⟩ := (HROW.out.keep f5 (fun _ _ h => h)).append fa fl fc (frameL zb) hfl gin.rd (by omega)
        have HRUN := Lib.hid hrun
        have HR6 := Lib.hid (hrow6.on HFR.out.size f5.size hf6.size)
        have HF6 := Lib.hid ((HFR.out.trans f5).then_ hf6 fun k hk h => h.elim (fun h => h.elim) fun h => by omega)
        have hst : framesL (((xs.take j).map Tx.b)) ++ frameL zb = framesL ((xs.take (j + 1)).map Tx.b) := by rw [HST.out, framesL_snoc]
        rw [hst] at HR6
        clear r5 f5 gin hrun hrow6 hf6 hst hfl hflb hflc C5
        go_wp2_with (at_builtin; refine wpList_append_run rfl _ _ 22 rfl rfl rfl HRUN.out ?_)
        go_roundw
        case rel => exact ⟨j + 1, by simp, by omega, HR6.out, HF6.out⟩
        case measure => simp [intOf]; omega
      · obtain rfl : j = n := by omega
        have d1 : decide ((j : Int) < (j : Int)) = false := by simp
        have hfull : (xs.take j).map Tx.b = scanL l := by rw [List.take_of_length_le (by rw [HN.out]; exact Nat.le_refl _), HXS.out]
        obtain ⟨va, vc, rfl, v1, v2, vin⟩ := hrow.form
        rw [hfull] at vin v1 ⊢
        rw [HEQ.out] at v1 ⊢
        have hle2 : (l.take E).length = E := by rw [List.length_take, HL.out]; omega
        have C6 := Lib.hid (same_yes (cap := vc) (cap' := cap) HEQ.out hle2 vin.rd ((HR.out.keep HFA.out).take E) HTK.out.symm)
        have C7 := Lib.hid (CA.out wr HFA.out)
        clear hrow hfr hfull vin hle2 hAL
        go_wp2_with fail
        refine (show Calls _ _ _ _ _ from C6.out).mono ?_
        rintro e w6 ⟨rfl, rfl⟩
        go_wp2_with fail
        refine (show Calls _ _ _ _ _ from C7.out).mono ?_
        rintro e w6 ⟨rfl, hf6⟩
        go_wp2_with fail
        go_ret
        exact ⟨rfl, HFA.out.trans hf6⟩
end Go.Proofs.YtcekgalppbfnhaaDoor
