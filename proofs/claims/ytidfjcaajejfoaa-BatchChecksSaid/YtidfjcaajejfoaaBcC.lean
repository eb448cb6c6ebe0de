/-
  Layer 10, the program's own: Batch.Bytes, Size.
-/
import Derived.Test.YtidfjcaajejfoaaBcB
import Derived.Deep.CutRange
namespace Go.Proofs.Ytidfjcaajejfoaa
set_option linter.unusedVariables false
open Go.RowKit

theorem WrT.join {S T T' : Nat → Prop} {w a b : World} {B : Nat} {p p' : List UInt8} {bad bad' : Bool} (h : WrT S w a B T p bad) (k : WrT T a b B T' p' bad') : WrT S w b B T' p' bad' :=
  ⟨k.wr, fun x hx hl => h.old x (k.old x hx (Nat.lt_of_lt_of_le hl h.fr.size)) hl, h.fr.then_ k.fr fun x hx hh => hh.elim .inl fun hh => .inr (h.old x hh hx), h.lt, h.ns, h.sb⟩
set_option maxRecDepth 20000 in
set_option maxHeartbeats 3200000 in
theorem bbytes_c (q : Int) (a : Option Addr) (cap : Nat) (l : List Op10) (w : World) (S : Nat → Prop) (hq : (Lit.int .i64 q).wf = true) (hc : l.length ≤ cap) (hm : cap ≤ maxLen) (hi : Ops w S a l) (hwf : ∀ x ∈ l, OpWf x) :
    Calls Try.prog 14 #[.agg #[.int .i64 q, .slice a l.length cap]] w (BytesR q l w) := by
  obtain ⟨W, hW, hfW, m0, m1⟩ := box_batch w q (.slice a l.length cap)
  have HC := Lib.hid (bcheck_c q a cap l W S hq hc hm (hi.keep hfW fun _ _ h => h) hwf)
  have hat : At W w.heap.size 24 #[.int .i64 q, .slice a l.length cap] := by rw [← hW]; exact At.new _ _ _
  have HI := Lib.hid (hi.sub (T := fun k => k < w.heap.size) fun k hk _ => hk)
  have HW := Lib.hid hW
  have HFW := Lib.hid hfW
  have HP := Lib.hid (fun (h : allO q l = true) => allO_parts h)
  obtain ⟨n, hn⟩ : ∃ n, l.length = n := ⟨_, rfl⟩
  have HN := Lib.hid hn
  rw [hn] at HC HP m1 hat ⊢
  rw [hn] at HW
  have HAT := Lib.hid hat
  clear hi hwf hW hfW hc hm hn hat
  unfold BytesR
  cases hall : allO q l with
  | false =>
    have hE : errO (allO q l) = .int .i64 100 := by rw [hall]; rfl
    have HB : Hid (bytesO q l = []) := Lib.hid (by unfold bytesO; rw [hall]; rfl)
    have HE := Lib.hid hE
    rw [hE] at HC
    have hE2 : errO false = .int .i64 100 := rfl
    rw [hE2]
    clear hE hE2 HI HP hall
    go_enter Try.func14, Try.ntmps14
    go_wp2_with fail
    rw [HW.out]
    go_wp2_with fail
    refine HC.out.mono ?_
    rintro e w1 ⟨rfl, hf1⟩
    have HF1 := Lib.hid hf1
    clear hf1
    go_wp2_with fail
    go_ret2
    exact ⟨_, rfl, by rw [HB.out]; exact Row.nil _ _, HFW.out.trans HF1.out⟩
  | true =>
    obtain ⟨p1, p2, p3, p4, p5⟩ := HP.out hall
    have hE : errO (allO q l) = .int .i64 0 := by rw [hall]; rfl
    have hE2 : errO true = .int .i64 0 := rfl
    rw [hE] at HC
    rw [hE2]
    have HB : Hid (bytesO q l = (enc q.toNat ++ enc n) ++ opsB (l.take n)) := Lib.hid (by unfold bytesO batchB; rw [hall, if_pos rfl, HN.out, List.take_of_length_le (by rw [HN.out]; exact Nat.le_refl _)])
    have HLEN : Hid (∀ k, k ≤ n → (((enc q.toNat ++ enc n) ++ opsB (l.take k)).length ≤ 900000)) := Lib.hid fun k hk => by
      have h1 := enc_len9 (show q.toNat < 9223372036854775808 by omega)
      have h2 := enc_len9 (show n < 9223372036854775808 by omega)
      have h3 := opsB_len (l.take k) fun x hx => by
        obtain ⟨_, b, c, _⟩ := rightO_parts (p5 x (List.mem_of_mem_take hx))
        omega
      have h4 : (l.take k).length ≤ 64 := by rw [List.length_take]; omega
      simp only [List.length_append]
      omega
    have HP5 := Lib.hid p5
    have hqn : ((q.toNat : Nat) : Int) = q := by omega
    clear hE hE2 HP p5 hall
    go_enter Try.func14, Try.ntmps14
    go_wp2_with fail
    rw [HW.out]
    go_wp2_with fail
    refine HC.out.mono ?_
    rintro e w1 ⟨rfl, hf1⟩
    have HF1 := Lib.hid (HFW.out.trans hf1)
    have hat1 := HAT.out.keep hf1 (fun h => h)
    clear hf1 HC
    go_upto_region 5 with fail
    obtain ⟨W1, hW1⟩ : ∃ y, w1.alloc (.cells #[.slice none 0 0, .bool false] 55) = y := ⟨_, rfl⟩
    have hf2 : Fr No w1 W1 := by rw [← hW1]; exact (Fr.refl No w1).alloc _
    have hnew := Wr.new w1
    rw [hW1] at hnew ⊢
    obtain ⟨C, hC⟩ : ∃ y, w1.heap.size = y := ⟨_, rfl⟩
    rw [hC] at hnew ⊢
    obtain ⟨B, hB⟩ : ∃ y, w.heap.size = y := ⟨_, rfl⟩
    have hBC : B < C := by rw [← hB, ← hC]; exact hat1.lt
    rw [hB] at HI hat1 ⊢
    have HT0 := Lib.hid (WrT.start hnew)
    have HG := Lib.hid (hat1.keep hf2 (fun h => h))
    have HGC : Hid (¬ One C B) := Lib.hid (fun h => by have h : B = C := h; omega)
    have HF2 := Lib.hid (HF1.out.trans hf2)
    have HWB : Hid (w.heap.size ≤ B) := Lib.hid (Nat.le_of_eq hB)
    clear hnew hW1 hf2 hC hB hat1 HF1 m0 m1 HAT HFW HW
    refine wp_region_held_drew (S := fun w' => At w' B 24 #[.int .i64 q, .slice a n cap]) (by kernel_rfl) (HG.out.keep (Fr.refl No W1).drew (fun h => h)) (fun hHeld => ?_)
    refine take_drop (i := 0) (v := ?v0_y1) rfl (by kernel_rfl) (by kernel_rfl) (by kernel_rfl) (fun _ _ _ h => h) (Or.inl ⟨by rfl, ?h0_y1⟩) hHeld ?r0_y1
    case h0_y1 => (intro wS hSw; have c0 := hSw.cell 0; have c1 := hSw.cell 1; go_simp; all_goals (with_reducible rfl))
    simp only [Act.put, List.setIfInBounds_toArray, List.set_cons_zero, List.set_cons_succ]
    refine take_drop (i := 1) (v := ?v1_y2) rfl (by kernel_rfl) (by kernel_rfl) (by kernel_rfl) (fun _ _ _ h => h) (Or.inl ⟨by rfl, ?h1_y2⟩) hHeld ?r1_y2
    case h1_y2 => (intro wS hSw; have c0 := hSw.cell 0; have c1 := hSw.cell 1; go_simp; all_goals (with_reducible rfl))
    simp only [Act.put, List.setIfInBounds_toArray, List.set_cons_zero, List.set_cons_succ]
    refine take_drop (i := 3) (v := ?v3_y3) rfl (by kernel_rfl) (by kernel_rfl) (by kernel_rfl) (fun _ _ _ h => h) (Or.inl ⟨by rfl, ?h3_y3⟩) hHeld ?r3_y3
    case h3_y3 => (intro wS hSw; have c0 := hSw.cell 0; have c1 := hSw.cell 1; go_simp; all_goals (with_reducible rfl))
    simp only [Act.put, List.setIfInBounds_toArray, List.set_cons_zero, List.set_cons_succ]
    refine take_drop (i := 4) (v := ?v4_y4) rfl (by kernel_rfl) (by kernel_rfl) (by kernel_rfl) (fun _ _ _ h => h) (Or.inl ⟨by rfl, ?h4_y4⟩) hHeld ?r4_y4
    case h4_y4 => (intro wS hSw; have c0 := hSw.cell 0; have c1 := hSw.cell 1; go_simp; all_goals (with_reducible rfl))
    simp only [Act.put, List.setIfInBounds_toArray, List.set_cons_zero, List.set_cons_succ]
    refine take_drop (i := 5) (v := ?v5_y5) rfl (by kernel_rfl) (by kernel_rfl) (by kernel_rfl) (fun _ _ _ h => h) (Or.inl ⟨by rfl, ?h5_y5⟩) hHeld ?r5_y5
    case h5_y5 => (intro wS hSw; have c0 := hSw.cell 0; have c1 := hSw.cell 1; go_simp; all_goals (with_reducible rfl))
    simp only [Act.put, List.setIfInBounds_toArray, List.set_cons_zero, List.set_cons_succ]
    obtain ⟨wR, hR⟩ : ∃ y, W1.drew = y := ⟨_, rfl⟩
    rw [hR] at hHeld ⊢
    have HT := Lib.hid (HT0.out.no (by rw [← hR]; exact (Fr.refl No W1).drew : Fr No W1 wR))
    have HG := Lib.hid hHeld
    clear hHeld hR
    have HGR : Hid (B < wR.heap.size) := Lib.hid HG.out.lt
    refine wpAnyH_ready (rs := [2]) (by kernel_rfl) (by simp) ?_
    refine do_drop (i := 2) rfl (fun K hK => ?_) AllReadyH.nil
    go_simp
    have hn_ := wnum_c q.toNat wR C _ [] false HT.out.wr (by omega) (by simp)
    rw [hqn] at hn_
    refine hn_.mono ?_
    intro e w3 hr_
    obtain ⟨rfl, ht_, hf_⟩ := HT.out.call hr_
    have HG := Lib.hid (HG.out.keep hf_ (fun h => h.elim HGC.out (fun h => h)))
    have HT3 := Lib.hid ht_
    refine hK.out _ _ HG.out ?_
    clear hK K hr_ ht_ hf_ hn_
    try simp only [Act.put, List.setIfInBounds_toArray, List.set_cons_zero, List.set_cons_succ]
    refine wpAnyH_ready (rs := [6]) (by kernel_rfl) (by simp) ?_
    refine do_drop (i := 6) rfl (fun K hK => ?_) AllReadyH.nil
    go_simp
    have hn_ := wnum_c n w3 C _ ([] ++ enc q.toNat) false HT3.out.wr (by omega) (by have := enc_len9 (show q.toNat < 9223372036854775808 by omega); simp only [List.nil_append]; omega)
    refine hn_.mono ?_
    intro e w4 hr_
    have HGR : Hid (B < wR.heap.size) := HGR
    obtain ⟨rfl, ht_, hf_⟩ := HT3.out.call hr_
    have HG := Lib.hid (HG.out.keep hf_ (fun h => h.elim HGC.out fun h => h.elim (fun h => h) fun h => by have := HGR.out; omega))
    have HT4 := Lib.hid ht_
    refine hK.out _ _ HG.out ?_
    clear hK K hr_ ht_ hf_ hn_
    try simp only [Act.put, List.setIfInBounds_toArray, List.set_cons_zero, List.set_cons_succ]
    refine wpAnyH_done (by kernel_rfl) ?_ _
    have c0 := HG.out.cell 0
    have c1 := HG.out.cell 1
    rw [List.nil_append] at HT4
    obtain ⟨T4, hT4⟩ : ∃ T, T = Gr (Gr No wR w3) w3 w4 := ⟨_, rfl⟩
    rw [← hT4] at HT4
    clear hT4
    go_wp2_with fail
    go_loopw [23] (fun i wr => ∃ (k : Nat) (T : Nat → Prop), i = .int .i64 k ∧ k ≤ n ∧ WrT No W1 wr C T ((enc q.toNat ++ enc n) ++ opsB (l.take k)) false) (fun i _ => n - (intOf i).toNat)
    case atStart => exact ⟨0, T4, rfl, Nat.zero_le _, by simpa [opsB] using HT4.out⟩
    case round =>
      obtain ⟨k, T, rfl, hkn, ht⟩ := hrel
      have HTk := Lib.hid ht
      clear ht HT4 HT3
      by_cases hlt : k < n
      · have hkl : k < l.length := by rw [HN.out]; exact hlt
        obtain ⟨b, o, hb, rfl, hxs⟩ := HI.out (by omega)
        have hx := ((hxs k hkl).keep HF2.out (fun h => h)).keep HTk.out.fr (fun h => by
          rcases h with h | h
          · have h : b = C := h; omega
          · exact h)
        have HRT := Lib.hid (HP5.out _ (getD_mem l k hkl))
        have HTK := Lib.hid (take_op l k hkl)
        generalize l.getD k op0 = x at hx HRT HTK
        obtain ⟨W3, hW3, hf3, hat3⟩ := box_op wr x
        obtain ⟨c0', c1', c2'⟩ := hx
        obtain ⟨t0, t1, t2⟩ := hat3
        rw [← hW3] at t0 t1 t2
        have HW3 := Lib.hid hW3
        have HT3 := Lib.hid (HTk.out.no hf3)
        have HWC := Lib.hid (write_c x W3 C T ((enc q.toNat ++ enc n) ++ opsB (l.take k)) HRT.out HT3.out.wr (by have := HLEN.out k hkn; omega))
        clear hW3 hf3 hxs
        unfold opV at HWC
        go_wp2_with fail
        rw [HW3.out]
        refine HWC.out.mono ?_
        rintro e w5 ⟨rfl, T5, ht5⟩
        have HT5 := Lib.hid (HT3.out.join ht5)
        clear ht5 t0 t1 t2 c0' c1' c2'
        go_wp2_with fail
        go_roundw
        case rel => exact ⟨k + 1, T5, by simp, by omega, by
          have h := HT5.out
          rw [List.append_assoc, ← opsB_one, ← opsB_append, ← HTK.out] at h
          exact h⟩
        case measure => simp [intOf]; omega
      · have hk' : k = n := by omega
        subst hk'
        have HBR := Lib.hid (wbytes_c wr C T _ HTk.out.wr (by have := HLEN.out k (Nat.le_refl _); omega))
        obtain ⟨Y, hY⟩ : ∃ Y, (enc q.toNat ++ enc k) ++ opsB (l.take k) = Y := ⟨_, rfl⟩
        rw [hY] at HB HBR
        obtain ⟨m, hm⟩ : ∃ m, Y.length = m := ⟨_, rfl⟩
        have HM := Lib.hid hm
        clear hm hY
        go_wp2_with fail
        refine HBR.out.mono ?_
        rintro e w6 ⟨a6, c6, rfl, _, _, hrow6, hf6⟩
        rw [HM.out] at hrow6 ⊢
        have HR6 := Lib.hid hrow6
        have HF6 := Lib.hid hf6
        clear hrow6 hf6
        go_wp2_with fail
        go_ret2
        have hfin : Fr No w wr := HF2.out.then_ HTk.out.fr fun b hb h => by
          rcases h with h | h
          · have h : b = C := h
            have := HWB.out; omega
          · exact h
        have hr6 : Row w6 (Gr No w w6) (.slice a6 m c6) Y := HR6.out.sub fun b hb h => by
          rcases h with h | h
          · exact .inl h
          · exact .inr ⟨Nat.le_trans hfin.size h.1, h.2⟩
        rw [← HB.out] at hr6
        exact ⟨_, rfl, hr6, hfin.trans HF6.out⟩
set_option maxHeartbeats 800000 in
theorem bsize_c (q : Int) (a : Option Addr) (cap : Nat) (l : List Op10) (w : World) (S : Nat → Prop) (hq : (Lit.int .i64 q).wf = true) (hc : l.length ≤ cap) (hm : cap ≤ maxLen) (hi : Ops w S a l) (hwf : ∀ x ∈ l, OpWf x) :
    Calls Try.prog 17 #[.agg #[.int .i64 q, .slice a l.length cap]] w (Ask (.int .i64 ((bytesO q l).length : Int)) w) := by
  obtain ⟨W, hW, hfW, m0, m1⟩ := box_batch w q (.slice a l.length cap)
  have HC := Lib.hid (bbytes_c q a cap l W S hq hc hm (hi.keep hfW fun _ _ h => h) hwf)
  have HW := Lib.hid hW
  have HFW := Lib.hid hfW
  clear hi hwf hW hfW hc hm
  generalize l.length = n at *
  obtain ⟨E, hE⟩ : ∃ E, errO (allO q l) = E := ⟨_, rfl⟩
  unfold BytesR at HC
  rw [hE] at HC
  clear hE
  go_enter Try.func17, Try.ntmps17
  go_wp2_with fail
  rw [HW.out]
  go_wp2_with fail
  refine HC.out.mono ?_
  rintro e w1 ⟨v, rfl, hrow, hf1⟩
  obtain ⟨a1, c1, rfl, _, _, _⟩ := hrow.form
  have HF1 := Lib.hid hf1
  clear hrow hf1
  generalize (bytesO q l).length = m at *
  go_wp2_with fail
  go_ret
  exact ⟨rfl, HFW.out.trans HF1.out⟩
end Go.Proofs.Ytidfjcaajejfoaa
