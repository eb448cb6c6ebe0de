/-
  Layer 12, the program's own: the first restart whose key is not below one (sort.Search, its closures), Find.
-/
import Derived.Test.YtiacdakaolghmaaBdI
import Derived.Test.YtiacdakaolghmaaBkF
namespace Go.Proofs.Ytiacdakaolghmaa
set_option linter.unusedVariables false
open Go.RowKit Go.Shelf
attribute [local go_sem] Oper.semAt_some

abbrev nbB (s key : ByteArray) : Bool := decide (0 ≤ cmpB (bs s) (bs key))
set_option maxHeartbeats 400000 in
theorem past_c (s key : ByteArray) (K : Nat) (w : World) (hk : w.cell? ⟨K, 0, none⟩ = some (.string key)) :
    Calls Try.prog 38 #[.string s, .pointer (some ⟨K, 0, none⟩)] w fun en w' => en = .returned (.bool (nbB s key)) ∧ w = w' := by
  have h := geq_str s key
  obtain ⟨b, hb⟩ : ∃ b, nbB s key = b := ⟨_, rfl⟩
  unfold nbB at hb
  rw [hb] at h
  unfold nbB
  rw [hb]
  go_enter Try.func38, Try.ntmps38
  go_wp2_with fail
  go_ret
  exact ⟨by rw [← h]; rfl, rfl⟩
abbrev pastV (K : Nat) : Value := .func (.func 38) #[] #[.pointer (some ⟨K, 0, none⟩)]
set_option maxRecDepth 20000 in
set_option maxHeartbeats 3200000 in
theorem isPast_c {w : World} {x : Nat} {F : Nat → Prop} {l : List Pr} {e : Nat} (h : Bk w x F l e) (r : Nat) (hr : r < (startsN e l l.length).length) (X1 X2 K : Nat) (key : ByteArray)
    (c1 : w.cell? ⟨X1, 0, none⟩ = some (.pointer (some ⟨x, 0, none⟩))) (c2 : w.cell? ⟨X2, 0, none⟩ = some (pastV K)) (ck : w.cell? ⟨K, 0, none⟩ = some (.string key)) :
    Calls Try.prog 47 #[.int .i64 (r : Int), .pointer (some ⟨X1, 0, none⟩), .pointer (some ⟨X2, 0, none⟩)] w fun en w' => en = .returned (.bool (nbB (l.getD (r * e) pr0).key key)) ∧ Fr No w w' := by
  obtain ⟨_, _, p, a, c, h⟩ := h
  obtain ⟨g, o, rfl, cs, h1, h2, h3⟩ := start_cell h hr
  have k0 : w.cell? ⟨x, 0, none⟩ = some (.string p) := h.hd.cell 0
  have k1 : w.cell? ⟨x, 1, none⟩ = some (.slice (some ⟨g, o, none⟩) (startsN e l l.length).length c) := h.hd.cell 1
  have hz := h.size
  obtain ⟨st, hst⟩ : ∃ st, (pairsB e l (r * e)).length = st := ⟨_, rfl⟩
  rw [hst] at cs h2 h3
  obtain ⟨q, hq⟩ : ∃ q, p.extract st p.size = q := ⟨_, rfl⟩
  rw [hq] at h3
  have hqz : q.size ≤ 10000000000 := by rw [← hq, size_extract _ _ _ (Nat.le_refl _)]; omega
  have hnx : ∃ rest, nextR q emp = some (l.getD (r * e) pr0, rest) := by
    have hrest := pairsB_rest e l (l.length - r * e) (r * e)
    rw [show r * e + (l.length - r * e) = l.length by omega] at hrest
    obtain ⟨n, hn⟩ : ∃ n, l.length - r * e = n + 1 := ⟨l.length - r * e - 1, by omega⟩
    rw [hn] at hrest
    have hbq : bs q = pairB e l (r * e) ++ restB e l n (r * e + 1) := by
      rw [← hq, bs_extract, h.hp, hrest, ← hst, List.drop_append_of_le_length (Nat.le_refl _), List.drop_length, List.nil_append, List.take_of_length_le]
      · rfl
      · have := congrArg List.length hrest
        rw [← h.hp, bs_length, List.length_append] at this
        omega
    obtain ⟨rest, hh, _⟩ := next_pair (ah := emp) hbq (by omega) (Nat.lt_of_le_of_lt (h.ft.low _ h1).1 (by omega)) (by rw [if_pos (Nat.mul_mod_left r e)]; trivial)
    exact ⟨rest, hh⟩
  obtain ⟨rest, hnx⟩ := hnx
  obtain ⟨y, hy⟩ : ∃ y, l.getD (r * e) pr0 = y := ⟨_, rfl⟩
  rw [hy] at hnx ⊢
  obtain ⟨m, hm⟩ : ∃ m, (startsN e l l.length).length = m := ⟨_, rfl⟩
  rw [hm] at k1 hr
  have CN := fun w => next_c q emp w hqz (show (0 : Nat) ≤ _ by omega)
  unfold NxRet at CN
  rw [hnx] at CN
  unfold prV emp at CN
  simp only at CN
  have CN := Lib.hid CN
  have HQ := Lib.hid hq
  have hri : (r : Int) < (m : Int) := by omega
  have hr0 : (0 : Int) ≤ (r : Int) := by omega
  have hsi : (st : Int) ≤ (p.size : Int) := by omega
  have hs0 : (0 : Int) ≤ (st : Int) := by omega
  clear h h1 h3 hst hq hqz hnx hy hm
  go_enter Try.func47, Try.ntmps47
  go_wp2_with fail
  have HS := Lib.hid (And.intro c1 (And.intro k0 (And.intro k1 cs)))
  refine wp_region_held_drew (S := (fun w' => w'.cell? ⟨X1, 0, none⟩ = some (.pointer (some ⟨x, 0, none⟩)) ∧ w'.cell? ⟨x, 0, none⟩ = some (.string p) ∧ w'.cell? ⟨x, 1, none⟩ = some (.slice (some ⟨g, o, none⟩) m c) ∧ w'.cell? ⟨g, o + r, none⟩ = some (.int .i64 (st : Int)))) (by kernel_rfl) ⟨c1, k0, k1, cs⟩ (fun hSx => ?_)
  refine take_drop (i := 0) (v := ?v0_w1) rfl (by kernel_rfl) (by kernel_rfl) (by kernel_rfl) (fun _ _ _ h => h) (Or.inl ⟨by rfl, ?h0_w1⟩) hSx ?r0_w1
  case h0_w1 => (intro wS hSw; obtain ⟨s1, s2, s3, s4⟩ := hSw; go_simp; all_goals (first | (with_reducible rfl) | (rw [if_neg (by omega)])))
  simp only [Act.put, List.setIfInBounds_toArray, List.set_cons_zero, List.set_cons_succ]
  refine take_drop (i := 1) (v := ?v1_w2) rfl (by kernel_rfl) (by kernel_rfl) (by kernel_rfl) (fun _ _ _ h => h) (Or.inl ⟨by rfl, ?h1_w2⟩) hSx ?r1_w2
  case h1_w2 => (intro wS hSw; obtain ⟨s1, s2, s3, s4⟩ := hSw; go_simp; all_goals (first | (with_reducible rfl) | (rw [if_neg (by omega)])))
  simp only [Act.put, List.setIfInBounds_toArray, List.set_cons_zero, List.set_cons_succ]
  refine take_drop (i := 2) (v := ?v2_w3) rfl (by kernel_rfl) (by kernel_rfl) (by kernel_rfl) (fun _ _ _ h => h) (Or.inl ⟨by rfl, ?h2_w3⟩) hSx ?r2_w3
  case h2_w3 => (intro wS hSw; obtain ⟨s1, s2, s3, s4⟩ := hSw; go_simp; all_goals (first | (with_reducible rfl) | (rw [if_neg (by omega)])))
  simp only [Act.put, List.setIfInBounds_toArray, List.set_cons_zero, List.set_cons_succ]
  refine take_drop (i := 3) (v := ?v3_w4) rfl (by kernel_rfl) (by kernel_rfl) (by kernel_rfl) (fun _ _ _ h => h) (Or.inl ⟨by rfl, ?h3_w4⟩) hSx ?r3_w4
  case h3_w4 => (intro wS hSw; obtain ⟨s1, s2, s3, s4⟩ := hSw; go_simp; all_goals (first | (with_reducible rfl) | (rw [if_neg (by omega)])))
  simp only [Act.put, List.setIfInBounds_toArray, List.set_cons_zero, List.set_cons_succ]
  refine take_drop (i := 4) (v := ?v4_w5) rfl (by kernel_rfl) (by kernel_rfl) (by kernel_rfl) (fun _ _ _ h => h) (Or.inl ⟨by rfl, ?h4_w5⟩) hSx ?r4_w5
  case h4_w5 => (intro wS hSw; obtain ⟨s1, s2, s3, s4⟩ := hSw; go_simp; all_goals (first | (with_reducible rfl) | (rw [if_neg (by omega)])))
  simp only [Act.put, List.setIfInBounds_toArray, List.set_cons_zero, List.set_cons_succ]
  refine take_drop (i := 5) (v := ?v5_w6) rfl (by kernel_rfl) (by kernel_rfl) (by kernel_rfl) (fun _ _ _ h => h) (Or.inl ⟨by rfl, ?h5_w6⟩) hSx ?r5_w6
  case h5_w6 => (intro wS hSw; obtain ⟨s1, s2, s3, s4⟩ := hSw; go_simp; all_goals (first | (with_reducible rfl) | (rw [if_neg (by omega)])))
  simp only [Act.put, List.setIfInBounds_toArray, List.set_cons_zero, List.set_cons_succ]
  refine take_drop (i := 6) (v := ?v6_w7) rfl (by kernel_rfl) (by kernel_rfl) (by kernel_rfl) (fun _ _ _ h => h) (Or.inl ⟨by rfl, ?h6_w7⟩) hSx ?r6_w7
  case h6_w7 => (intro wS hSw; obtain ⟨s1, s2, s3, s4⟩ := hSw; go_simp; all_goals (first | (with_reducible rfl) | (rw [if_neg (by omega)])))
  simp only [Act.put, List.setIfInBounds_toArray, List.set_cons_zero, List.set_cons_succ]
  refine take_drop (i := 7) (v := ?v7_w8) rfl (by kernel_rfl) (by kernel_rfl) (by kernel_rfl) (fun _ _ _ h => h) (Or.inl ⟨by rfl, ?h7_w8⟩) hSx ?r7_w8
  case h7_w8 => (intro wS hSw; obtain ⟨s1, s2, s3, s4⟩ := hSw; go_simp; all_goals (first | (with_reducible rfl) | (rw [if_neg (by omega)])))
  simp only [Act.put, List.setIfInBounds_toArray, List.set_cons_zero, List.set_cons_succ]
  refine take_drop (i := 8) (v := ?v8_w9) rfl (by kernel_rfl) (by kernel_rfl) (by kernel_rfl) (fun _ _ _ h => h) (Or.inl ⟨by rfl, ?h8_w9⟩) hSx ?r8_w9
  case h8_w9 => (intro wS hSw; obtain ⟨s1, s2, s3, s4⟩ := hSw; go_simp; all_goals (first | (with_reducible rfl) | (rw [if_neg (by omega)])))
  simp only [Act.put, List.setIfInBounds_toArray, List.set_cons_zero, List.set_cons_succ]
  refine take_drop (i := 9) (v := ?v9_w10) rfl (by kernel_rfl) (by kernel_rfl) (by kernel_rfl) (fun _ _ _ h => h) (Or.inl ⟨by rfl, ?h9_w10⟩) hSx ?r9_w10
  case h9_w10 => (intro wS hSw; obtain ⟨s1, s2, s3, s4⟩ := hSw; go_simp; all_goals (first | (with_reducible rfl) | (rw [if_neg (by omega)])))
  simp only [Act.put, List.setIfInBounds_toArray, List.set_cons_zero, List.set_cons_succ]
  refine take_drop (i := 10) (v := ?v10_w11) rfl (by kernel_rfl) (by kernel_rfl) (by kernel_rfl) (fun _ _ _ h => h) (Or.inl ⟨by rfl, ?h10_w11⟩) hSx ?r10_w11
  case h10_w11 => (intro wS hSw; obtain ⟨s1, s2, s3, s4⟩ := hSw; go_simp; all_goals (first | (with_reducible rfl) | (rw [if_neg (by omega)])))
  simp only [Act.put, List.setIfInBounds_toArray, List.set_cons_zero, List.set_cons_succ]
  refine take_drop (i := 11) (v := ?v11_w12) rfl (by kernel_rfl) (by kernel_rfl) (by kernel_rfl) (fun _ _ _ h => h) (Or.inl ⟨by rfl, ?h11_w12⟩) hSx ?r11_w12
  case h11_w12 => (intro wS hSw; obtain ⟨s1, s2, s3, s4⟩ := hSw; go_simp; all_goals (first | (with_reducible rfl) | (rw [if_neg (by omega)])))
  simp only [Act.put, List.setIfInBounds_toArray, List.set_cons_zero, List.set_cons_succ]
  rw [HQ.out]
  obtain ⟨wR, hR⟩ : ∃ y, w.drew = y := ⟨_, rfl⟩
  rw [hR] at hSx ⊢
  have HFR : Hid (Fr No w wR) := Lib.hid (by rw [← hR]; exact (Fr.refl No w).drew)
  clear hR
  refine wpAnyH_ready (rs := [12, 17]) (by kernel_rfl) (by simp) ?_
  refine do_drop (i := 12) rfl (fun K hK => ?_) ?_
  · go_simp
    refine (CN.out _).mono ?_
    rintro en wa ⟨f9, rfl⟩
    have hSx : wa.cell? ⟨X1, 0, none⟩ = some (.pointer (some ⟨x, 0, none⟩)) ∧ wa.cell? ⟨x, 0, none⟩ = some (.string p) ∧ wa.cell? ⟨x, 1, none⟩ = some (.slice (some ⟨g, o, none⟩) m c) ∧ wa.cell? ⟨g, o + r, none⟩ = some (.int .i64 (st : Int)) := ⟨f9.cell hSx.1 (fun h => h), f9.cell hSx.2.1 (fun h => h), f9.cell hSx.2.2.1 (fun h => h), f9.cell hSx.2.2.2 (fun h => h)⟩
    have HFa := Lib.hid (HFR.out.trans f9)
    refine hK.out _ _ hSx ?_
    clear hK K f9
    try simp only [Act.put, List.setIfInBounds_toArray, List.set_cons_zero, List.set_cons_succ]
    refine take_drop (i := 13) (v := ?v13_w13) rfl (by kernel_rfl) (by kernel_rfl) (by kernel_rfl) (fun _ _ _ h => h) (Or.inl ⟨by rfl, ?h13_w13⟩) hSx ?r13_w13
    case h13_w13 => (intro wS hSw; obtain ⟨s1, s2, s3, s4⟩ := hSw; go_simp; all_goals (first | (with_reducible rfl) | (rw [if_neg (by omega)])))
    simp only [Act.put, List.setIfInBounds_toArray, List.set_cons_zero, List.set_cons_succ]
    refine take_drop (i := 14) (v := ?v14_w14) rfl (by kernel_rfl) (by kernel_rfl) (by kernel_rfl) (fun _ _ _ h => h) (Or.inl ⟨by rfl, ?h14_w14⟩) hSx ?r14_w14
    case h14_w14 => (intro wS hSw; obtain ⟨s1, s2, s3, s4⟩ := hSw; go_simp; all_goals (first | (with_reducible rfl) | (rw [if_neg (by omega)])))
    simp only [Act.put, List.setIfInBounds_toArray, List.set_cons_zero, List.set_cons_succ]
    refine take_drop (i := 15) (v := ?v15_w15) rfl (by kernel_rfl) (by kernel_rfl) (by kernel_rfl) (fun _ _ _ h => h) (Or.inl ⟨by rfl, ?h15_w15⟩) hSx ?r15_w15
    case h15_w15 => (intro wS hSw; obtain ⟨s1, s2, s3, s4⟩ := hSw; go_simp; all_goals (first | (with_reducible rfl) | (rw [if_neg (by omega)])))
    simp only [Act.put, List.setIfInBounds_toArray, List.set_cons_zero, List.set_cons_succ]
    refine take_drop (i := 16) (v := ?v16_w16) rfl (by kernel_rfl) (by kernel_rfl) (by kernel_rfl) (fun _ _ _ h => h) (Or.inl ⟨by rfl, ?h16_w16⟩) hSx ?r16_w16
    case h16_w16 => (intro wS hSw; obtain ⟨s1, s2, s3, s4⟩ := hSw; go_simp; all_goals (first | (with_reducible rfl) | (rw [if_neg (by omega)])))
    simp only [Act.put, List.setIfInBounds_toArray, List.set_cons_zero, List.set_cons_succ]
    refine wpAnyH_ready (rs := [17]) (by kernel_rfl) (by simp) ?_
    refine do_drop (i := 17) rfl (fun K hK => ?_) AllReadyH.nil
    go_simp
    obtain ⟨wb, hnw⟩ : ∃ W, wa.alloc (.cells #[.string ⟨#[]⟩, .string ⟨#[]⟩] 39) = W := ⟨_, rfl⟩
    have f9 : Fr No wa wb := by rw [← hnw]; exact (Fr.refl No wa).alloc _
    have HB : Hid (At wb wa.heap.size 39 #[.string ⟨#[]⟩, .string ⟨#[]⟩]) := Lib.hid (by rw [← hnw]; exact At.new _ _ _)
    have HBZ : Hid (w.heap.size ≤ wa.heap.size) := Lib.hid HFa.out.size
    obtain ⟨O, hO⟩ : ∃ O, wa.heap.size = O := ⟨_, rfl⟩
    rw [hnw]
    rw [hO] at HB HBZ ⊢
    have hSx : wb.cell? ⟨X1, 0, none⟩ = some (.pointer (some ⟨x, 0, none⟩)) ∧ wb.cell? ⟨x, 0, none⟩ = some (.string p) ∧ wb.cell? ⟨x, 1, none⟩ = some (.slice (some ⟨g, o, none⟩) m c) ∧ wb.cell? ⟨g, o + r, none⟩ = some (.int .i64 (st : Int)) := ⟨f9.cell hSx.1 (fun h => h), f9.cell hSx.2.1 (fun h => h), f9.cell hSx.2.2.1 (fun h => h), f9.cell hSx.2.2.2 (fun h => h)⟩
    have HFb := Lib.hid (HFa.out.trans f9)
    refine hK.out _ _ hSx ?_
    clear hK K f9 hnw hO
    try simp only [Act.put, List.setIfInBounds_toArray, List.set_cons_zero, List.set_cons_succ]
    refine wpAnyH_ready (rs := [18]) (by kernel_rfl) (by simp) ?_
    refine do_drop (i := 18) rfl (fun K hK => ?_) AllReadyH.nil
    have q0 := HB.out.cell 0
    have z0 := HB.out.frozen 0
    have q1 := (HB.out.set_ 0 (.string y.key)).cell 1
    have z1 := (HB.out.set_ 0 (.string y.key)).frozen 1
    have HB2 := Lib.hid ((HB.out.set_ 0 (.string y.key)).set_ 1 (.string y.val))
    have HF2 := Lib.hid ((HFb.out.setCell (p := ⟨O, 0, none⟩) (fun h => absurd h (by show ¬ O < _; have := HBZ.out; omega)) (.string y.key)).setCell (p := ⟨O, 1, none⟩) (fun h => absurd h (by show ¬ O < _; have := HBZ.out; omega)) (.string y.val))
    go_simp
    obtain ⟨w9, hw9⟩ : ∃ W, (wb.setCell ⟨O, 0, none⟩ (.string y.key)).setCell ⟨O, 1, none⟩ (.string y.val) = W := ⟨_, rfl⟩
    rw [hw9] at HB2 HF2 ⊢
    have hSx : w9.cell? ⟨X1, 0, none⟩ = some (.pointer (some ⟨x, 0, none⟩)) ∧ w9.cell? ⟨x, 0, none⟩ = some (.string p) ∧ w9.cell? ⟨x, 1, none⟩ = some (.slice (some ⟨g, o, none⟩) m c) ∧ w9.cell? ⟨g, o + r, none⟩ = some (.int .i64 (st : Int)) := ⟨HF2.out.cell HS.out.1 (fun h => h), HF2.out.cell HS.out.2.1 (fun h => h), HF2.out.cell HS.out.2.2.1 (fun h => h), HF2.out.cell HS.out.2.2.2 (fun h => h)⟩
    refine hK.out _ _ hSx ?_
    clear hK K q0 z0 q1 z1 hw9
    try simp only [Act.put, List.setIfInBounds_toArray, List.set_cons_zero, List.set_cons_succ]
    refine take_drop (i := 19) (v := ?v19_w17) rfl (by kernel_rfl) (by kernel_rfl) (by kernel_rfl) (fun _ _ _ h => h) (Or.inl ⟨by rfl, ?h19_w17⟩) hSx ?r19_w17
    case h19_w17 => (intro wS hSw; obtain ⟨s1, s2, s3, s4⟩ := hSw; go_simp; all_goals (first | (with_reducible rfl) | (rw [if_neg (by omega)])))
    simp only [Act.put, List.setIfInBounds_toArray, List.set_cons_zero, List.set_cons_succ]
    refine take_drop (i := 20) (v := ?v20_w18) rfl (by kernel_rfl) (by kernel_rfl) (by kernel_rfl) (fun _ _ _ h => h) (Or.inl ⟨by rfl, ?h20_w18⟩) hSx ?r20_w18
    case h20_w18 => (intro wS hSw; obtain ⟨s1, s2, s3, s4⟩ := hSw; go_simp; all_goals (first | (with_reducible rfl) | (rw [if_neg (by omega)])))
    simp only [Act.put, List.setIfInBounds_toArray, List.set_cons_zero, List.set_cons_succ]
    refine wpAnyH_done (by kernel_rfl) ?_ _
    have c29 := HF2.out.cell c2 (fun h => h)
    have q9 := HB2.out.cell 0
    have CPQ := Lib.hid (past_c y.key key K w9 (HF2.out.cell ck (fun h => h)))
    clear hSx
    go_wp2_with fail
    refine (show Calls _ _ _ _ _ from CPQ.out).mono ?_
    rintro e9 w10 ⟨rfl, rfl⟩
    go_wp2_with fail
    go_ret
    exact ⟨rfl, HF2.out⟩
  refine do_drop (i := 17) rfl (fun K hK => ?_) AllReadyH.nil
  go_simp
  obtain ⟨wa, hnw⟩ : ∃ W, wR.alloc (.cells #[.string ⟨#[]⟩, .string ⟨#[]⟩] 39) = W := ⟨_, rfl⟩
  have f9 : Fr No wR wa := by rw [← hnw]; exact (Fr.refl No wR).alloc _
  have HB : Hid (At wa wR.heap.size 39 #[.string ⟨#[]⟩, .string ⟨#[]⟩]) := Lib.hid (by rw [← hnw]; exact At.new _ _ _)
  have HBZ : Hid (w.heap.size ≤ wR.heap.size) := Lib.hid HFR.out.size
  obtain ⟨O, hO⟩ : ∃ O, wR.heap.size = O := ⟨_, rfl⟩
  rw [hnw]
  rw [hO] at HB HBZ ⊢
  have hSx : wa.cell? ⟨X1, 0, none⟩ = some (.pointer (some ⟨x, 0, none⟩)) ∧ wa.cell? ⟨x, 0, none⟩ = some (.string p) ∧ wa.cell? ⟨x, 1, none⟩ = some (.slice (some ⟨g, o, none⟩) m c) ∧ wa.cell? ⟨g, o + r, none⟩ = some (.int .i64 (st : Int)) := ⟨f9.cell hSx.1 (fun h => h), f9.cell hSx.2.1 (fun h => h), f9.cell hSx.2.2.1 (fun h => h), f9.cell hSx.2.2.2 (fun h => h)⟩
  have HFa := Lib.hid (HFR.out.trans f9)
  refine hK.out _ _ hSx ?_
  clear hK K f9 hnw hO
  try simp only [Act.put, List.setIfInBounds_toArray, List.set_cons_zero, List.set_cons_succ]
  refine wpAnyH_ready (rs := [12]) (by kernel_rfl) (by simp) ?_
  refine do_drop (i := 12) rfl (fun K hK => ?_) AllReadyH.nil
  go_simp
  refine (CN.out _).mono ?_
  rintro en wb ⟨f9, rfl⟩
  have hSx : wb.cell? ⟨X1, 0, none⟩ = some (.pointer (some ⟨x, 0, none⟩)) ∧ wb.cell? ⟨x, 0, none⟩ = some (.string p) ∧ wb.cell? ⟨x, 1, none⟩ = some (.slice (some ⟨g, o, none⟩) m c) ∧ wb.cell? ⟨g, o + r, none⟩ = some (.int .i64 (st : Int)) := ⟨f9.cell hSx.1 (fun h => h), f9.cell hSx.2.1 (fun h => h), f9.cell hSx.2.2.1 (fun h => h), f9.cell hSx.2.2.2 (fun h => h)⟩
  have HFb := Lib.hid (HFa.out.trans f9)
  have HB := Lib.hid (HB.out.keep f9 (fun h => h))
  refine hK.out _ _ hSx ?_
  clear hK K f9
  try simp only [Act.put, List.setIfInBounds_toArray, List.set_cons_zero, List.set_cons_succ]
  refine take_drop (i := 13) (v := ?v13_w19) rfl (by kernel_rfl) (by kernel_rfl) (by kernel_rfl) (fun _ _ _ h => h) (Or.inl ⟨by rfl, ?h13_w19⟩) hSx ?r13_w19
  case h13_w19 => (intro wS hSw; obtain ⟨s1, s2, s3, s4⟩ := hSw; go_simp; all_goals (first | (with_reducible rfl) | (rw [if_neg (by omega)])))
  simp only [Act.put, List.setIfInBounds_toArray, List.set_cons_zero, List.set_cons_succ]
  refine take_drop (i := 14) (v := ?v14_w20) rfl (by kernel_rfl) (by kernel_rfl) (by kernel_rfl) (fun _ _ _ h => h) (Or.inl ⟨by rfl, ?h14_w20⟩) hSx ?r14_w20
  case h14_w20 => (intro wS hSw; obtain ⟨s1, s2, s3, s4⟩ := hSw; go_simp; all_goals (first | (with_reducible rfl) | (rw [if_neg (by omega)])))
  simp only [Act.put, List.setIfInBounds_toArray, List.set_cons_zero, List.set_cons_succ]
  refine take_drop (i := 15) (v := ?v15_w21) rfl (by kernel_rfl) (by kernel_rfl) (by kernel_rfl) (fun _ _ _ h => h) (Or.inl ⟨by rfl, ?h15_w21⟩) hSx ?r15_w21
  case h15_w21 => (intro wS hSw; obtain ⟨s1, s2, s3, s4⟩ := hSw; go_simp; all_goals (first | (with_reducible rfl) | (rw [if_neg (by omega)])))
  simp only [Act.put, List.setIfInBounds_toArray, List.set_cons_zero, List.set_cons_succ]
  refine take_drop (i := 16) (v := ?v16_w22) rfl (by kernel_rfl) (by kernel_rfl) (by kernel_rfl) (fun _ _ _ h => h) (Or.inl ⟨by rfl, ?h16_w22⟩) hSx ?r16_w22
  case h16_w22 => (intro wS hSw; obtain ⟨s1, s2, s3, s4⟩ := hSw; go_simp; all_goals (first | (with_reducible rfl) | (rw [if_neg (by omega)])))
  simp only [Act.put, List.setIfInBounds_toArray, List.set_cons_zero, List.set_cons_succ]
  refine wpAnyH_ready (rs := [18]) (by kernel_rfl) (by simp) ?_
  refine do_drop (i := 18) rfl (fun K hK => ?_) AllReadyH.nil
  have q0 := HB.out.cell 0
  have z0 := HB.out.frozen 0
  have q1 := (HB.out.set_ 0 (.string y.key)).cell 1
  have z1 := (HB.out.set_ 0 (.string y.key)).frozen 1
  have HB2 := Lib.hid ((HB.out.set_ 0 (.string y.key)).set_ 1 (.string y.val))
  have HF2 := Lib.hid ((HFb.out.setCell (p := ⟨O, 0, none⟩) (fun h => absurd h (by show ¬ O < _; have := HBZ.out; omega)) (.string y.key)).setCell (p := ⟨O, 1, none⟩) (fun h => absurd h (by show ¬ O < _; have := HBZ.out; omega)) (.string y.val))
  go_simp
  obtain ⟨w9, hw9⟩ : ∃ W, (wb.setCell ⟨O, 0, none⟩ (.string y.key)).setCell ⟨O, 1, none⟩ (.string y.val) = W := ⟨_, rfl⟩
  rw [hw9] at HB2 HF2 ⊢
  have hSx : w9.cell? ⟨X1, 0, none⟩ = some (.pointer (some ⟨x, 0, none⟩)) ∧ w9.cell? ⟨x, 0, none⟩ = some (.string p) ∧ w9.cell? ⟨x, 1, none⟩ = some (.slice (some ⟨g, o, none⟩) m c) ∧ w9.cell? ⟨g, o + r, none⟩ = some (.int .i64 (st : Int)) := ⟨HF2.out.cell HS.out.1 (fun h => h), HF2.out.cell HS.out.2.1 (fun h => h), HF2.out.cell HS.out.2.2.1 (fun h => h), HF2.out.cell HS.out.2.2.2 (fun h => h)⟩
  refine hK.out _ _ hSx ?_
  clear hK K q0 z0 q1 z1 hw9
  try simp only [Act.put, List.setIfInBounds_toArray, List.set_cons_zero, List.set_cons_succ]
  refine take_drop (i := 19) (v := ?v19_w23) rfl (by kernel_rfl) (by kernel_rfl) (by kernel_rfl) (fun _ _ _ h => h) (Or.inl ⟨by rfl, ?h19_w23⟩) hSx ?r19_w23
  case h19_w23 => (intro wS hSw; obtain ⟨s1, s2, s3, s4⟩ := hSw; go_simp; all_goals (first | (with_reducible rfl) | (rw [if_neg (by omega)])))
  simp only [Act.put, List.setIfInBounds_toArray, List.set_cons_zero, List.set_cons_succ]
  refine take_drop (i := 20) (v := ?v20_w24) rfl (by kernel_rfl) (by kernel_rfl) (by kernel_rfl) (fun _ _ _ h => h) (Or.inl ⟨by rfl, ?h20_w24⟩) hSx ?r20_w24
  case h20_w24 => (intro wS hSw; obtain ⟨s1, s2, s3, s4⟩ := hSw; go_simp; all_goals (first | (with_reducible rfl) | (rw [if_neg (by omega)])))
  simp only [Act.put, List.setIfInBounds_toArray, List.set_cons_zero, List.set_cons_succ]
  refine wpAnyH_done (by kernel_rfl) ?_ _
  have c29 := HF2.out.cell c2 (fun h => h)
  have q9 := HB2.out.cell 0
  have CPQ := Lib.hid (past_c y.key key K w9 (HF2.out.cell ck (fun h => h)))
  clear hSx
  go_wp2_with fail
  refine (show Calls _ _ _ _ _ from CPQ.out).mono ?_
  rintro e9 w10 ⟨rfl, rfl⟩
  go_wp2_with fail
  go_ret
  exact ⟨rfl, HF2.out⟩
abbrev isPastV (X1 X2 : Nat) : Value := .func (.func 47) #[] #[.pointer (some ⟨X1, 0, none⟩), .pointer (some ⟨X2, 0, none⟩)]
def SearchRet (n : Nat) (P : Nat → Bool) (w : World) (en : Ending) (w' : World) : Prop := ∃ r : Nat, en = .returned (.int .i64 (r : Int)) ∧ r ≤ n ∧ (∀ j, j < r → P j = false) ∧ (r < n → P r = true) ∧ Fr No w w'
set_option maxRecDepth 20000 in
set_option maxHeartbeats 1600000 in
theorem search_c (n : Nat) (hn : n ≤ 1000000) (X1 X2 : Nat) (P : Nat → Bool) (hmo : ∀ i j, i ≤ j → j < n → P i = true → P j = true) (w : World)
    (hf : ∀ i w', i < n → Fr No w w' → Calls Try.prog 47 #[.int .i64 (i : Int), .pointer (some ⟨X1, 0, none⟩), .pointer (some ⟨X2, 0, none⟩)] w' fun en w'' => en = .returned (.bool (P i)) ∧ Fr No w' w'') :
    Calls Try.prog 46 #[.int .i64 (n : Int), isPastV X1 X2] w (SearchRet n P w) := by
  have HM := Lib.hid hmo
  have HC := Lib.hid hf
  clear hmo hf
  go_enter Try.func46, Try.ntmps46
  go_wp2_with fail
  go_loopw [5, 6] (fun a b wr => ∃ i j : Nat, a = .int .i64 i ∧ b = .int .i64 j ∧ i ≤ j ∧ j ≤ n ∧ (∀ k, k < i → P k = false) ∧ (j < n → P j = true) ∧ Fr No w wr) (fun a b _ => (intOf b - intOf a).toNat)
  case atStart => exact ⟨0, n, rfl, rfl, Nat.zero_le _, Nat.le_refl _, (fun k h => absurd h (Nat.not_lt_zero k)), (fun h => absurd h (Nat.lt_irrefl n)), Fr.refl _ _⟩
  case round =>
    obtain ⟨i, j, rfl, rfl, hij, hjn, h1, h2, hfr⟩ := hrel
    have H1 := Lib.hid h1
    have H2 := Lib.hid h2
    have HF := Lib.hid hfr
    clear h1 h2 hfr
    by_cases hlt : i < j
    · obtain ⟨s, hs⟩ : ∃ s, i + j = s := ⟨_, rfl⟩
      have hsi : (i : Int) + (j : Int) = (s : Int) := by omega
      obtain ⟨h, hh⟩ : ∃ h, s / 2 = h := ⟨_, rfl⟩
      have hhi : (s : Int) / 2 = (h : Int) := by omega
      have hih : i ≤ h := by omega
      have hhj : h < j := by omega
      have HCC := Lib.hid (HC.out h wr (by omega) HF.out)
      clear hs hh
      go_wp2_with fail
      refine (show Calls _ _ _ _ _ from HCC.out).mono ?_
      rintro e2 w2 ⟨rfl, f2⟩
      have HF2 := Lib.hid (HF.out.trans f2)
      clear f2 HCC
      cases hp : P h with
      | false =>
        have HN : Hid (∀ k, k < h + 1 → P k = false) := Lib.hid fun k hk => by
          cases hk2 : P k with
          | false => rfl
          | true => rw [HM.out k h (by omega) (by omega) hk2] at hp; cases hp
        clear hp
        go_wp2_with fail
        go_roundw
        case rel => exact ⟨h + 1, j, by simp, rfl, by omega, hjn, HN.out, H2.out, HF2.out⟩
        case measure => simp [intOf]; omega
      | true =>
        have HP := Lib.hid hp
        clear hp
        go_wp2_with fail
        go_roundw
        case rel => exact ⟨i, h, rfl, rfl, hih, by omega, H1.out, (fun _ => HP.out), HF2.out⟩
        case measure => simp [intOf]; omega
    · have hij2 : i = j := by omega
      subst hij2
      go_wp2_with fail
      go_ret
      exact ⟨i, rfl, hjn, H1.out, H2.out, HF.out⟩
theorem nb_mono {l : List Pr} {e : Nat} (ho : ordP l) (he : 1 ≤ e) (key : ByteArray) {i j : Nat} (hij : i ≤ j) (hj : j * e < l.length) (h : nbB (l.getD (i * e) pr0).key key = true) : nbB (l.getD (j * e) pr0).key key = true := by
  rcases Nat.lt_or_ge i j with h1 | h1
  · have h2 : i * e < j * e := Nat.mul_lt_mul_of_pos_right h1 (by omega)
    have h3 := ord_lt' ho h2 hj
    unfold cmpP at h3
    unfold nbB at h ⊢
    rw [decide_eq_true_eq] at h ⊢
    rcases Int.lt_or_le (cmpB (bs (l.getD (j * e) pr0).key) (bs key)) 0 with h4 | h4
    · have := cmpB_lt_trans h3 h4
      omega
    · exact h4
  · obtain rfl : i = j := by omega
    exact h
set_option maxRecDepth 20000 in
set_option maxHeartbeats 1600000 in
theorem first_c {w : World} {x : Nat} {F : Nat → Prop} {l : List Pr} {e : Nat} (h : Bk w x F l e) (K : Nat) (key : ByteArray) (hk : w.cell? ⟨K, 0, none⟩ = some (.string key)) :
    Calls Try.prog 37 #[.pointer (some ⟨x, 0, none⟩), pastV K] w (SearchRet (startsN e l l.length).length (fun r => nbB (l.getD (r * e) pr0).key key) w) := by
  obtain ⟨W, hW⟩ : ∃ W, (w.alloc (.cells #[.pointer (some ⟨x, 0, none⟩)] 34)).alloc (.cells #[pastV K] 67) = W := ⟨_, rfl⟩
  have f0 : Fr No w W := by rw [← hW]; exact ((Fr.refl No w).alloc _).alloc _
  have a1 : At W w.heap.size 34 #[.pointer (some ⟨x, 0, none⟩)] := by rw [← hW]; exact (At.new _ _ _).keep ((Fr.refl No _).alloc _) (fun h => h)
  have a2 : At W (w.heap.size + 1) 67 #[pastV K] := by
    have := At.new (w.alloc (.cells #[.pointer (some ⟨x, 0, none⟩)] 34)) 67 #[pastV K]
    rw [World.size_alloc] at this
    rw [← hW]
    exact this
  have hb := h.keep f0 (fun _ _ h => h)
  obtain ⟨_, _, p, a, c, hh⟩ := id hb
  have ho := hh.ft.ord
  have he := hh.ft.e1
  have hns := hh.ft.starts
  have CS := search_c (startsN e l l.length).length (by omega) w.heap.size (w.heap.size + 1) (fun r => nbB (l.getD (r * e) pr0).key key) (fun i j h1 h2 h3 => nb_mono ho he key h1 (startsN_get e he l j h2).2 h3) W
    (fun r w' hr f => isPast_c (hb.keep f (fun _ _ h => h)) r hr _ _ K key (f.cell (a1.cell 0) (fun h => h)) (f.cell (a2.cell 0) (fun h => h)) (f.cell (f0.cell hk (fun h => h)) (fun h => h)))
  have c0 := a1.cell 0
  have c1 : W.cell? ⟨x, 1, none⟩ = some (.slice a (startsN e l l.length).length c) := hh.hd.cell 1
  rw [← hW] at c0 c1
  have HW := Lib.hid hW
  have HF0 := Lib.hid f0
  have HFIN : Hid (∀ en w', SearchRet (startsN e l l.length).length (fun r => nbB (l.getD (r * e) pr0).key key) W en w' → SearchRet (startsN e l l.length).length (fun r => nbB (l.getD (r * e) pr0).key key) w en w') := Lib.hid fun en w' ⟨r, h1, h2, h3, h4, h5⟩ => ⟨r, h1, h2, h3, h4, f0.trans h5⟩
  generalize (fun r => nbB (l.getD (r * e) pr0).key key) = P at *
  generalize (startsN e l l.length).length = n at *
  have CS := Lib.hid CS
  clear h hb hh ho he hW f0 a1 a2
  go_enter Try.func37, Try.ntmps37
  go_wp2_with fail
  rw [HW.out]
  refine (show Calls _ _ _ _ _ from CS.out).mono ?_
  rintro en w2 hret
  obtain ⟨r, rfl, h2, h3, h4, h5⟩ := HFIN.out _ _ hret
  have HR : Hid (SearchRet n P w (.returned (.int .i64 (r : Int))) w2) := Lib.hid ⟨r, rfl, h2, h3, h4, h5⟩
  clear hret h2 h3 h4 h5
  go_wp2_with fail
  go_ret
  exact HR.out
end Go.Proofs.Ytiacdakaolghmaa
