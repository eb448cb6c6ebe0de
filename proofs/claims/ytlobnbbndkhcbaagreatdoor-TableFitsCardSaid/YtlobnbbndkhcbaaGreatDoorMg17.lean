/-
  Texts of layer 13 and of what it stands on, one behind the other.
-/
import Derived.Test.YtlobnbbndkhcbaaGreatDoorMg14
import Derived.Test.YtlobnbbndkhcbaaGreatDoorMg12

/- Layer 12, the program's own: bytesOf. -/
namespace Go.Proofs.YtlobnbbndkhcbaaGreatDoor
set_option linter.unusedVariables false
open Go.RowKit

def oneB (x : Pr) (n : Nat) : List UInt8 := enc n ++ (enc (x.key.size - n) ++ (enc x.val.size ++ ((bs x.key).drop n ++ bs x.val)))
set_option maxRecDepth 20000 in
set_option maxHeartbeats 3200000 in
theorem bytesOf_c (x : Pr) (n : Nat) (w : World) (hn : n ≤ x.key.size) (hk : x.key.size ≤ 1000000) (hv : x.val.size ≤ 1000000) :
    Calls Tryz.prog 144 #[prV x, .int .i64 (n : Int)] w (NewRow (oneB x n) w) := by
  obtain ⟨W, hW⟩ : ∃ W, (w.alloc (.cells #[.string x.key, .string x.val] 74)).alloc (.cells #[.slice none 0 0, .bool false] 155) = W := ⟨_, rfl⟩
  have f0 : Fr No w W := by rw [← hW]; exact ((Fr.refl No w).alloc _).alloc _
  have s0 : W.heap.size = w.heap.size + 2 := by rw [← hW]; simp
  have a0 : At W w.heap.size 74 #[.string x.key, .string x.val] := by rw [← hW]; exact (At.new _ _ _).keep ((Fr.refl No _).alloc _) (fun h => h)
  have wr0 : Wr W (w.heap.size + 1) No [] false := by
    have := Wr.new (w.alloc (.cells #[.string x.key, .string x.val] 74))
    rw [World.size_alloc] at this
    rw [← hW]
    exact this
  have c0 : W.cell? ⟨w.heap.size, 0, none⟩ = some (.string x.key) := a0.cell 0
  rw [← hW] at c0
  have hni : (n : Int) ≤ (x.key.size : Int) := by omega
  have hn0 : (0 : Int) ≤ (n : Int) := by omega
  obtain ⟨own, hown⟩ : ∃ own, x.key.extract n x.key.size = own := ⟨_, rfl⟩
  have hos : own.size = x.key.size - n := by rw [← hown, size_extract _ _ _ (Nat.le_refl _)]
  have hob : bs own = (bs x.key).drop n := by
    rw [← hown, bs_extract, List.take_of_length_le (by rw [List.length_drop, bs_length]; exact Nat.le_refl _)]
  have HW := Lib.hid hW
  have HA := Lib.hid a0
  have HT0 := Lib.hid (WrT.start wr0)
  have HF0 := Lib.hid f0
  have HS0 := Lib.hid s0
  have HOB := Lib.hid hob
  have HOS := Lib.hid hos
  have HOWN := Lib.hid hown
  clear hW f0 s0 a0 wr0 hob hos hown
  unfold prV
  go_enter Tryz.func144, Tryz.ntmps144
  go_wp2_with fail
  rw [HW.out, HOWN.out]
  refine wp_region_held_drew (S := fun w' => At w' w.heap.size 74 #[.string x.key, .string x.val]) (by kernel_rfl) (HA.out.keep (Fr.refl No _).drew (fun h => h)) (fun hHeld => ?_)
  refine take_drop (i := 0) (v := ?v0_w1) rfl (by kernel_rfl) (by kernel_rfl) (by kernel_rfl) (fun _ _ _ h => h) (Or.inl ⟨by rfl, ?h0_w1⟩) hHeld ?r0_w1
  case h0_w1 => (intro wS hSw; have c0 := hSw.cell 0; have c1 := hSw.cell 1; go_simp; all_goals (with_reducible rfl))
  simp only [Act.put, List.setIfInBounds_toArray, List.set_cons_zero, List.set_cons_succ]
  refine take_drop (i := 2) (v := ?v2_w2) rfl (by kernel_rfl) (by kernel_rfl) (by kernel_rfl) (fun _ _ _ h => h) (Or.inl ⟨by rfl, ?h2_w2⟩) hHeld ?r2_w2
  case h2_w2 => (intro wS hSw; have c0 := hSw.cell 0; have c1 := hSw.cell 1; go_simp; all_goals (with_reducible rfl))
  simp only [Act.put, List.setIfInBounds_toArray, List.set_cons_zero, List.set_cons_succ]
  refine take_drop (i := 3) (v := ?v3_w3) rfl (by kernel_rfl) (by kernel_rfl) (by kernel_rfl) (fun _ _ _ h => h) (Or.inl ⟨by rfl, ?h3_w3⟩) hHeld ?r3_w3
  case h3_w3 => (intro wS hSw; have c0 := hSw.cell 0; have c1 := hSw.cell 1; go_simp; all_goals (with_reducible rfl))
  simp only [Act.put, List.setIfInBounds_toArray, List.set_cons_zero, List.set_cons_succ]
  refine take_drop (i := 5) (v := ?v5_w4) rfl (by kernel_rfl) (by kernel_rfl) (by kernel_rfl) (fun _ _ _ h => h) (Or.inl ⟨by rfl, ?h5_w4⟩) hHeld ?r5_w4
  case h5_w4 => (intro wS hSw; have c0 := hSw.cell 0; have c1 := hSw.cell 1; go_simp; all_goals (with_reducible rfl))
  simp only [Act.put, List.setIfInBounds_toArray, List.set_cons_zero, List.set_cons_succ]
  refine take_drop (i := 6) (v := ?v6_w5) rfl (by kernel_rfl) (by kernel_rfl) (by kernel_rfl) (fun _ _ _ h => h) (Or.inl ⟨by rfl, ?h6_w5⟩) hHeld ?r6_w5
  case h6_w5 => (intro wS hSw; have c0 := hSw.cell 0; have c1 := hSw.cell 1; go_simp; all_goals (with_reducible rfl))
  simp only [Act.put, List.setIfInBounds_toArray, List.set_cons_zero, List.set_cons_succ]
  refine take_drop (i := 7) (v := ?v7_w6) rfl (by kernel_rfl) (by kernel_rfl) (by kernel_rfl) (fun _ _ _ h => h) (Or.inl ⟨by rfl, ?h7_w6⟩) hHeld ?r7_w6
  case h7_w6 => (intro wS hSw; have c0 := hSw.cell 0; have c1 := hSw.cell 1; go_simp; all_goals (with_reducible rfl))
  simp only [Act.put, List.setIfInBounds_toArray, List.set_cons_zero, List.set_cons_succ]
  obtain ⟨wR, hR⟩ : ∃ y, W.drew = y := ⟨_, rfl⟩
  rw [hR] at hHeld ⊢
  have HT := Lib.hid (HT0.out.no (by rw [← hR]; exact (Fr.refl No W).drew : Fr No W wR))
  have HA := Lib.hid hHeld
  clear hHeld hR
  have hs0 := HS0.out
  have hl1 := enc_len9 (show n < 9223372036854775808 by omega)
  have hl2 := enc_len9 (show own.size < 9223372036854775808 by have := HOS.out; omega)
  have hl3 := enc_len9 (show x.val.size < 9223372036854775808 by omega)
  refine wpAnyH_ready (rs := [1]) (by kernel_rfl) (by simp) ?_
  refine do_drop (i := 1) rfl (fun K hK => ?_) AllReadyH.nil
  go_simp
  refine (wnum_c n wR (w.heap.size + 1) _ [] false HT.out.wr (by have := HOS.out; omega) (by first | (simp; done) | (have := HOS.out; simp only [List.length_append, List.length_nil]; omega))).mono ?_
  intro e w1 hr_
  obtain ⟨rfl, ht_, hf_⟩ := HT.out.call hr_
  have HA := Lib.hid (HA.out.keep hf_ (fun h => h.elim (fun h => by have h : w.heap.size = w.heap.size + 1 := h; omega) (fun h => HT.out.old _ h (by omega))))
  have HT1 := Lib.hid ht_
  refine hK.out _ _ HA.out ?_
  clear hK K hr_ ht_ hf_
  try simp only [Act.put, List.setIfInBounds_toArray, List.set_cons_zero, List.set_cons_succ]
  refine wpAnyH_ready (rs := [4]) (by kernel_rfl) (by simp) ?_
  refine do_drop (i := 4) rfl (fun K hK => ?_) AllReadyH.nil
  go_simp
  refine (wnum_c own.size w1 (w.heap.size + 1) _ ([] ++ enc n) false HT1.out.wr (by have := HOS.out; omega) (by first | (simp; done) | (have := HOS.out; simp only [List.length_append, List.length_nil]; omega))).mono ?_
  intro e w2 hr_
  obtain ⟨rfl, ht_, hf_⟩ := HT1.out.call hr_
  have HA := Lib.hid (HA.out.keep hf_ (fun h => h.elim (fun h => by have h : w.heap.size = w.heap.size + 1 := h; omega) (fun h => HT1.out.old _ h (by omega))))
  have HT2 := Lib.hid ht_
  refine hK.out _ _ HA.out ?_
  clear hK K hr_ ht_ hf_
  try simp only [Act.put, List.setIfInBounds_toArray, List.set_cons_zero, List.set_cons_succ]
  refine wpAnyH_ready (rs := [8]) (by kernel_rfl) (by simp) ?_
  refine do_drop (i := 8) rfl (fun K hK => ?_) AllReadyH.nil
  go_simp
  refine (wnum_c x.val.size w2 (w.heap.size + 1) _ (([] ++ enc n) ++ enc own.size) false HT2.out.wr (by have := HOS.out; omega) (by first | (simp; done) | (have := HOS.out; simp only [List.length_append, List.length_nil]; omega))).mono ?_
  intro e w3 hr_
  obtain ⟨rfl, ht_, hf_⟩ := HT2.out.call hr_
  have HA := Lib.hid (HA.out.keep hf_ (fun h => h.elim (fun h => by have h : w.heap.size = w.heap.size + 1 := h; omega) (fun h => HT2.out.old _ h (by omega))))
  have HT3 := Lib.hid ht_
  refine hK.out _ _ HA.out ?_
  clear hK K hr_ ht_ hf_
  try simp only [Act.put, List.setIfInBounds_toArray, List.set_cons_zero, List.set_cons_succ]
  refine wpAnyH_done (by kernel_rfl) ?_ _
  clear HT HT1 HT2 HT0
  go_wp2_with fail
  refine wp_region_held_drew (S := fun w' => At w' w.heap.size 74 #[.string x.key, .string x.val]) (by kernel_rfl) (HA.out.keep (Fr.refl No _).drew (fun h => h)) (fun hHeld => ?_)
  refine take_drop (i := 0) (v := ?v0_w7) rfl (by kernel_rfl) (by kernel_rfl) (by kernel_rfl) (fun _ _ _ h => h) (Or.inl ⟨by rfl, ?h0_w7⟩) hHeld ?r0_w7
  case h0_w7 => (intro wS hSw; have c0 := hSw.cell 0; have c1 := hSw.cell 1; go_simp; all_goals (with_reducible rfl))
  simp only [Act.put, List.setIfInBounds_toArray, List.set_cons_zero, List.set_cons_succ]
  refine take_drop (i := 3) (v := ?v3_w8) rfl (by kernel_rfl) (by kernel_rfl) (by kernel_rfl) (fun _ _ _ h => h) (Or.inl ⟨by rfl, ?h3_w8⟩) hHeld ?r3_w8
  case h3_w8 => (intro wS hSw; have c0 := hSw.cell 0; have c1 := hSw.cell 1; go_simp; all_goals (with_reducible rfl))
  simp only [Act.put, List.setIfInBounds_toArray, List.set_cons_zero, List.set_cons_succ]
  refine take_drop (i := 4) (v := ?v4_w9) rfl (by kernel_rfl) (by kernel_rfl) (by kernel_rfl) (fun _ _ _ h => h) (Or.inl ⟨by rfl, ?h4_w9⟩) hHeld ?r4_w9
  case h4_w9 => (intro wS hSw; have c0 := hSw.cell 0; have c1 := hSw.cell 1; go_simp; all_goals (with_reducible rfl))
  simp only [Act.put, List.setIfInBounds_toArray, List.set_cons_zero, List.set_cons_succ]
  obtain ⟨w4, hR⟩ : ∃ y, w3.drew = y := ⟨_, rfl⟩
  rw [hR] at hHeld ⊢
  have HT4 := Lib.hid (HT3.out.no (by rw [← hR]; exact (Fr.refl No w3).drew : Fr No w3 w4))
  have HA := Lib.hid hHeld
  clear hHeld hR HT3
  have HTB := Lib.hid HT4.out.wr.bound
  have HBL := Lib.hid HT4.out.wr.lt
  have HP : Hid (((([] ++ enc n) ++ enc own.size) ++ enc x.val.size).length ≤ 27) := Lib.hid (by simp only [List.length_append, List.length_nil]; omega)
  have HFIN : Hid (∀ (p : List UInt8) (w9 : World), p = oneB x n → p = oneB x n) := Lib.hid fun _ _ h => h
  have HGw4 : Hid (w4.heap.size ≤ w4.heap.size) := Lib.hid (Nat.le_refl _)
  refine wpAnyH_ready (rs := [1, 5]) (by kernel_rfl) (by simp) ?_
  refine do_drop (i := 1) rfl (fun K hK => ?_) ?_
  · obtain ⟨a1, c1, w5, hcv, hb1_, hb2_, hrd, hfv⟩ := conv_strR w4 own (by have := HOS.out; unfold maxLen; omega)
    have HA := Lib.hid (HA.out.keep hfv (fun h => h))
    have HT5 := Lib.hid (HT4.out.no hfv)
    have HI1 : Hid (In w5 (fun k => w4.heap.size ≤ k) a1 (bs own)) := Lib.hid (hrd.sub fun k _ hk => hk.elim (fun h => h.elim) (fun h => Nat.le_trans HGw4.out h.1))
    have HGw5 : Hid (w4.heap.size ≤ w5.heap.size) := Lib.hid (Nat.le_trans HGw4.out hfv.size)
    rw [if_pos (by rfl)]
    refine oper_convert_run _ _ _ rfl rfl hcv ?_
    refine hK.out _ _ HA.out ?_
    clear hK K hcv hrd hfv hb1_ hb2_
    try simp only [Act.put, List.setIfInBounds_toArray, List.set_cons_zero, List.set_cons_succ]
    refine wpAnyH_ready (rs := [2, 5]) (by kernel_rfl) (by simp) ?_
    refine do_drop (i := 2) rfl (fun K hK => ?_) ?_
    · go_simp
      refine (wraw_c a1 own.size c1 (bs own) w5 (w.heap.size + 1) _ ((([] ++ enc n) ++ enc own.size) ++ enc x.val.size) false HT5.out.wr (bs_length _) (by
        have h27 := HP.out
        have hos := HOS.out
        have hbo := bs_length own
        have hbv := bs_length x.val
        simp only [List.length_append, List.length_nil] at h27 ⊢
        omega) HI1.out.rd).mono ?_
      intro e w6 hr_
      obtain ⟨rfl, ht_, hf_⟩ := HT5.out.call hr_
      have HA := Lib.hid (HA.out.keep hf_ (fun h => h.elim (fun h => by have h : w.heap.size = w.heap.size + 1 := h; omega) (fun h => HT5.out.old _ h (by omega))))
      have HT6 := Lib.hid ht_
      have HGw6 : Hid (w4.heap.size ≤ w6.heap.size) := Lib.hid (Nat.le_trans HGw5.out hf_.size)
      refine hK.out _ _ HA.out ?_
      clear hK K hr_ ht_ hf_
      try simp only [Act.put, List.setIfInBounds_toArray, List.set_cons_zero, List.set_cons_succ]
      refine wpAnyH_ready (rs := [5]) (by kernel_rfl) (by simp) ?_
      refine do_drop (i := 5) rfl (fun K hK => ?_) AllReadyH.nil
      obtain ⟨a2, c2, w7, hcv, hb1_, hb2_, hrd, hfv⟩ := conv_strR w6 x.val (by have := HOS.out; unfold maxLen; omega)
      have HA := Lib.hid (HA.out.keep hfv (fun h => h))
      have HT7 := Lib.hid (HT6.out.no hfv)
      have HI2 : Hid (In w7 (fun k => w4.heap.size ≤ k) a2 (bs x.val)) := Lib.hid (hrd.sub fun k _ hk => hk.elim (fun h => h.elim) (fun h => Nat.le_trans HGw6.out h.1))
      have HGw7 : Hid (w4.heap.size ≤ w7.heap.size) := Lib.hid (Nat.le_trans HGw6.out hfv.size)
      rw [if_pos (by rfl)]
      refine oper_convert_run _ _ _ rfl rfl hcv ?_
      refine hK.out _ _ HA.out ?_
      clear hK K hcv hrd hfv hb1_ hb2_
      try simp only [Act.put, List.setIfInBounds_toArray, List.set_cons_zero, List.set_cons_succ]
      refine wpAnyH_ready (rs := [6]) (by kernel_rfl) (by simp) ?_
      refine do_drop (i := 6) rfl (fun K hK => ?_) AllReadyH.nil
      go_simp
      refine (wraw_c a2 x.val.size c2 (bs x.val) w7 (w.heap.size + 1) _ (((([] ++ enc n) ++ enc own.size) ++ enc x.val.size) ++ bs own) false HT7.out.wr (bs_length _) (by
        have h27 := HP.out
        have hos := HOS.out
        have hbo := bs_length own
        have hbv := bs_length x.val
        simp only [List.length_append, List.length_nil] at h27 ⊢
        omega) HI2.out.rd).mono ?_
      intro e w8 hr_
      obtain ⟨rfl, ht_, hf_⟩ := HT7.out.call hr_
      have HA := Lib.hid (HA.out.keep hf_ (fun h => h.elim (fun h => by have h : w.heap.size = w.heap.size + 1 := h; omega) (fun h => HT7.out.old _ h (by omega))))
      have HT8 := Lib.hid ht_
      have HGw8 : Hid (w4.heap.size ≤ w8.heap.size) := Lib.hid (Nat.le_trans HGw7.out hf_.size)
      refine hK.out _ _ HA.out ?_
      clear hK K hr_ ht_ hf_
      try simp only [Act.put, List.setIfInBounds_toArray, List.set_cons_zero, List.set_cons_succ]
      refine wpAnyH_ready (rs := [7]) (by kernel_rfl) (by simp) ?_
      refine do_drop (i := 7) rfl (fun K hK => ?_) AllReadyH.nil
      go_simp
      refine (wbytes_c w8 (w.heap.size + 1) _ ((((([] ++ enc n) ++ enc own.size) ++ enc x.val.size) ++ bs own) ++ bs x.val) HT8.out.wr (by
        have h27 := HP.out
        have hos := HOS.out
        have hbo := bs_length own
        have hbv := bs_length x.val
        simp only [List.length_append, List.length_nil] at h27 ⊢
        omega)).mono ?_
      rintro e w9 ⟨a9, c9, rfl, g1, g2, g3, g4⟩
      have HA := Lib.hid (HA.out.keep g4 (fun h => h))
      have HZ : Hid (NewRow (oneB x n) w (.returned (.slice a9 ((((([] ++ enc n) ++ enc own.size) ++ enc x.val.size) ++ bs own) ++ bs x.val).length c9)) w9) := Lib.hid (by
        have f9 : Fr No w w8 := HF0.out.then_ HT8.out.fr fun k hk h => h.elim (fun h => by have h : k = w.heap.size + 1 := h; omega) (fun h => h.elim)
        have hP : ((((([] ++ enc n) ++ enc own.size) ++ enc x.val.size) ++ bs own) ++ bs x.val) = oneB x n := by
          unfold oneB
          rw [← HOB.out, ← HOS.out]
          simp only [List.nil_append, List.append_assoc]
        refine ⟨_, rfl, ?_, f9.trans g4⟩
        rw [hP] at g3
        rw [hP]
        exact g3.sub fun k _ hk => hk.elim (fun h => h.elim) (fun h => .inr ⟨Nat.le_trans f9.size h.1, h.2⟩))
      obtain ⟨n9, hn9⟩ : ∃ n9, ((((([] ++ enc n) ++ enc own.size) ++ enc x.val.size) ++ bs own) ++ bs x.val).length = n9 := ⟨_, rfl⟩
      rw [hn9] at HZ ⊢
      clear g1 g2 g3 g4 hn9
      refine hK.out _ _ HA.out ?_
      clear hK K
      try simp only [Act.put, List.setIfInBounds_toArray, List.set_cons_zero, List.set_cons_succ]
      have hHeld := HA.out
      refine take_drop (i := 8) (v := ?v8_w10) rfl (by kernel_rfl) (by kernel_rfl) (by kernel_rfl) (fun _ _ _ h => h) (Or.inl ⟨by rfl, ?h8_w10⟩) hHeld ?r8_w10
      case h8_w10 => (intro wS hSw; have c0 := hSw.cell 0; have c1 := hSw.cell 1; go_simp; all_goals (with_reducible rfl))
      simp only [Act.put, List.setIfInBounds_toArray, List.set_cons_zero, List.set_cons_succ]
      refine take_drop (i := 9) (v := ?v9_w11) rfl (by kernel_rfl) (by kernel_rfl) (by kernel_rfl) (fun _ _ _ h => h) (Or.inl ⟨by rfl, ?h9_w11⟩) hHeld ?r9_w11
      case h9_w11 => (intro wS hSw; have c0 := hSw.cell 0; have c1 := hSw.cell 1; go_simp; all_goals (with_reducible rfl))
      simp only [Act.put, List.setIfInBounds_toArray, List.set_cons_zero, List.set_cons_succ]
      refine take_drop (i := 10) (v := ?v10_w12) rfl (by kernel_rfl) (by kernel_rfl) (by kernel_rfl) (fun _ _ _ h => h) (Or.inl ⟨by rfl, ?h10_w12⟩) hHeld ?r10_w12
      case h10_w12 => (intro wS hSw; have c0 := hSw.cell 0; have c1 := hSw.cell 1; go_simp; all_goals (with_reducible rfl))
      simp only [Act.put, List.setIfInBounds_toArray, List.set_cons_zero, List.set_cons_succ]
      refine take_drop (i := 11) (v := ?v11_w13) rfl (by kernel_rfl) (by kernel_rfl) (by kernel_rfl) (fun _ _ _ h => h) (Or.inl ⟨by rfl, ?h11_w13⟩) hHeld ?r11_w13
      case h11_w13 => (intro wS hSw; have c0 := hSw.cell 0; have c1 := hSw.cell 1; go_simp; all_goals (with_reducible rfl))
      simp only [Act.put, List.setIfInBounds_toArray, List.set_cons_zero, List.set_cons_succ]
      refine take_drop (i := 12) (v := ?v12_w14) rfl (by kernel_rfl) (by kernel_rfl) (by kernel_rfl) (fun _ _ _ h => h) (Or.inl ⟨by rfl, ?h12_w14⟩) hHeld ?r12_w14
      case h12_w14 => (intro wS hSw; have c0 := hSw.cell 0; have c1 := hSw.cell 1; go_simp; all_goals (with_reducible rfl))
      simp only [Act.put, List.setIfInBounds_toArray, List.set_cons_zero, List.set_cons_succ]
      refine wpAnyH_done (by kernel_rfl) ?_ _
      clear hHeld
      go_wp2_with fail
      go_ret
      exact HZ.out

    refine do_drop (i := 5) rfl (fun K hK => ?_) AllReadyH.nil
    obtain ⟨a2, c2, w6, hcv, hb1_, hb2_, hrd, hfv⟩ := conv_strR w5 x.val (by have := HOS.out; unfold maxLen; omega)
    have HA := Lib.hid (HA.out.keep hfv (fun h => h))
    have HT6 := Lib.hid (HT5.out.no hfv)
    have HI2 : Hid (In w6 (fun k => w4.heap.size ≤ k) a2 (bs x.val)) := Lib.hid (hrd.sub fun k _ hk => hk.elim (fun h => h.elim) (fun h => Nat.le_trans HGw5.out h.1))
    have HGw6 : Hid (w4.heap.size ≤ w6.heap.size) := Lib.hid (Nat.le_trans HGw5.out hfv.size)
    have HI1 := Lib.hid (HI1.out.keep hfv (fun _ _ h => h))
    rw [if_pos (by rfl)]
    refine oper_convert_run _ _ _ rfl rfl hcv ?_
    refine hK.out _ _ HA.out ?_
    clear hK K hcv hrd hfv hb1_ hb2_
    try simp only [Act.put, List.setIfInBounds_toArray, List.set_cons_zero, List.set_cons_succ]
    refine wpAnyH_ready (rs := [2]) (by kernel_rfl) (by simp) ?_
    refine do_drop (i := 2) rfl (fun K hK => ?_) AllReadyH.nil
    go_simp
    refine (wraw_c a1 own.size c1 (bs own) w6 (w.heap.size + 1) _ ((([] ++ enc n) ++ enc own.size) ++ enc x.val.size) false HT6.out.wr (bs_length _) (by
      have h27 := HP.out
      have hos := HOS.out
      have hbo := bs_length own
      have hbv := bs_length x.val
      simp only [List.length_append, List.length_nil] at h27 ⊢
      omega) HI1.out.rd).mono ?_
    intro e w7 hr_
    obtain ⟨rfl, ht_, hf_⟩ := HT6.out.call hr_
    have HA := Lib.hid (HA.out.keep hf_ (fun h => h.elim (fun h => by have h : w.heap.size = w.heap.size + 1 := h; omega) (fun h => HT6.out.old _ h (by omega))))
    have HI2 := Lib.hid (HI2.out.keep hf_ (fun k hk h => h.elim (fun h => by have h : k = w.heap.size + 1 := h; have := HBL.out; omega) (fun h => absurd (HTB.out k h) (by omega))))
    have HT7 := Lib.hid ht_
    have HGw7 : Hid (w4.heap.size ≤ w7.heap.size) := Lib.hid (Nat.le_trans HGw6.out hf_.size)
    refine hK.out _ _ HA.out ?_
    clear hK K hr_ ht_ hf_
    try simp only [Act.put, List.setIfInBounds_toArray, List.set_cons_zero, List.set_cons_succ]
    refine wpAnyH_ready (rs := [6]) (by kernel_rfl) (by simp) ?_
    refine do_drop (i := 6) rfl (fun K hK => ?_) AllReadyH.nil
    go_simp
    refine (wraw_c a2 x.val.size c2 (bs x.val) w7 (w.heap.size + 1) _ (((([] ++ enc n) ++ enc own.size) ++ enc x.val.size) ++ bs own) false HT7.out.wr (bs_length _) (by
      have h27 := HP.out
      have hos := HOS.out
      have hbo := bs_length own
      have hbv := bs_length x.val
      simp only [List.length_append, List.length_nil] at h27 ⊢
      omega) HI2.out.rd).mono ?_
    intro e w8 hr_
    obtain ⟨rfl, ht_, hf_⟩ := HT7.out.call hr_
    have HA := Lib.hid (HA.out.keep hf_ (fun h => h.elim (fun h => by have h : w.heap.size = w.heap.size + 1 := h; omega) (fun h => HT7.out.old _ h (by omega))))
    have HT8 := Lib.hid ht_
    have HGw8 : Hid (w4.heap.size ≤ w8.heap.size) := Lib.hid (Nat.le_trans HGw7.out hf_.size)
    refine hK.out _ _ HA.out ?_
    clear hK K hr_ ht_ hf_
    try simp only [Act.put, List.setIfInBounds_toArray, List.set_cons_zero, List.set_cons_succ]
    refine wpAnyH_ready (rs := [7]) (by kernel_rfl) (by simp) ?_
    refine do_drop (i := 7) rfl (fun K hK => ?_) AllReadyH.nil
    go_simp
    refine (wbytes_c w8 (w.heap.size + 1) _ ((((([] ++ enc n) ++ enc own.size) ++ enc x.val.size) ++ bs own) ++ bs x.val) HT8.out.wr (by
      have h27 := HP.out
      have hos := HOS.out
      have hbo := bs_length own
      have hbv := bs_length x.val
      simp only [List.length_append, List.length_nil] at h27 ⊢
      omega)).mono ?_
    rintro e w9 ⟨a9, c9, rfl, g1, g2, g3, g4⟩
    have HA := Lib.hid (HA.out.keep g4 (fun h => h))
    have HZ : Hid (NewRow (oneB x n) w (.returned (.slice a9 ((((([] ++ enc n) ++ enc own.size) ++ enc x.val.size) ++ bs own) ++ bs x.val).length c9)) w9) := Lib.hid (by
      have f9 : Fr No w w8 := HF0.out.then_ HT8.out.fr fun k hk h => h.elim (fun h => by have h : k = w.heap.size + 1 := h; omega) (fun h => h.elim)
      have hP : ((((([] ++ enc n) ++ enc own.size) ++ enc x.val.size) ++ bs own) ++ bs x.val) = oneB x n := by
        unfold oneB
        rw [← HOB.out, ← HOS.out]
        simp only [List.nil_append, List.append_assoc]
      refine ⟨_, rfl, ?_, f9.trans g4⟩
      rw [hP] at g3
      rw [hP]
      exact g3.sub fun k _ hk => hk.elim (fun h => h.elim) (fun h => .inr ⟨Nat.le_trans f9.size h.1, h.2⟩))
    obtain ⟨n9, hn9⟩ : ∃ n9, ((((([] ++ enc n) ++ enc own.size) ++ enc x.val.size) ++ bs own) ++ bs x.val).length = n9 := ⟨_, rfl⟩
    rw [hn9] at HZ ⊢
    clear g1 g2 g3 g4 hn9
    refine hK.out _ _ HA.out ?_
    clear hK K
    try simp only [Act.put, List.setIfInBounds_toArray, List.set_cons_zero, List.set_cons_succ]
    have hHeld := HA.out
    refine take_drop (i := 8) (v := ?v8_w15) rfl (by kernel_rfl) (by kernel_rfl) (by kernel_rfl) (fun _ _ _ h => h) (Or.inl ⟨by rfl, ?h8_w15⟩) hHeld ?r8_w15
    case h8_w15 => (intro wS hSw; have c0 := hSw.cell 0; have c1 := hSw.cell 1; go_simp; all_goals (with_reducible rfl))
    simp only [Act.put, List.setIfInBounds_toArray, List.set_cons_zero, List.set_cons_succ]
    refine take_drop (i := 9) (v := ?v9_w16) rfl (by kernel_rfl) (by kernel_rfl) (by kernel_rfl) (fun _ _ _ h => h) (Or.inl ⟨by rfl, ?h9_w16⟩) hHeld ?r9_w16
    case h9_w16 => (intro wS hSw; have c0 := hSw.cell 0; have c1 := hSw.cell 1; go_simp; all_goals (with_reducible rfl))
    simp only [Act.put, List.setIfInBounds_toArray, List.set_cons_zero, List.set_cons_succ]
    refine take_drop (i := 10) (v := ?v10_w17) rfl (by kernel_rfl) (by kernel_rfl) (by kernel_rfl) (fun _ _ _ h => h) (Or.inl ⟨by rfl, ?h10_w17⟩) hHeld ?r10_w17
    case h10_w17 => (intro wS hSw; have c0 := hSw.cell 0; have c1 := hSw.cell 1; go_simp; all_goals (with_reducible rfl))
    simp only [Act.put, List.setIfInBounds_toArray, List.set_cons_zero, List.set_cons_succ]
    refine take_drop (i := 11) (v := ?v11_w18) rfl (by kernel_rfl) (by kernel_rfl) (by kernel_rfl) (fun _ _ _ h => h) (Or.inl ⟨by rfl, ?h11_w18⟩) hHeld ?r11_w18
    case h11_w18 => (intro wS hSw; have c0 := hSw.cell 0; have c1 := hSw.cell 1; go_simp; all_goals (with_reducible rfl))
    simp only [Act.put, List.setIfInBounds_toArray, List.set_cons_zero, List.set_cons_succ]
    refine take_drop (i := 12) (v := ?v12_w19) rfl (by kernel_rfl) (by kernel_rfl) (by kernel_rfl) (fun _ _ _ h => h) (Or.inl ⟨by rfl, ?h12_w19⟩) hHeld ?r12_w19
    case h12_w19 => (intro wS hSw; have c0 := hSw.cell 0; have c1 := hSw.cell 1; go_simp; all_goals (with_reducible rfl))
    simp only [Act.put, List.setIfInBounds_toArray, List.set_cons_zero, List.set_cons_succ]
    refine wpAnyH_done (by kernel_rfl) ?_ _
    clear hHeld
    go_wp2_with fail
    go_ret
    exact HZ.out

  refine do_drop (i := 5) rfl (fun K hK => ?_) AllReadyH.nil
  obtain ⟨a2, c2, w5, hcv, hb1_, hb2_, hrd, hfv⟩ := conv_strR w4 x.val (by have := HOS.out; unfold maxLen; omega)
  have HA := Lib.hid (HA.out.keep hfv (fun h => h))
  have HT5 := Lib.hid (HT4.out.no hfv)
  have HI2 : Hid (In w5 (fun k => w4.heap.size ≤ k) a2 (bs x.val)) := Lib.hid (hrd.sub fun k _ hk => hk.elim (fun h => h.elim) (fun h => Nat.le_trans HGw4.out h.1))
  have HGw5 : Hid (w4.heap.size ≤ w5.heap.size) := Lib.hid (Nat.le_trans HGw4.out hfv.size)
  rw [if_pos (by rfl)]
  refine oper_convert_run _ _ _ rfl rfl hcv ?_
  refine hK.out _ _ HA.out ?_
  clear hK K hcv hrd hfv hb1_ hb2_
  try simp only [Act.put, List.setIfInBounds_toArray, List.set_cons_zero, List.set_cons_succ]
  refine wpAnyH_ready (rs := [1]) (by kernel_rfl) (by simp) ?_
  refine do_drop (i := 1) rfl (fun K hK => ?_) AllReadyH.nil
  obtain ⟨a1, c1, w6, hcv, hb1_, hb2_, hrd, hfv⟩ := conv_strR w5 own (by have := HOS.out; unfold maxLen; omega)
  have HA := Lib.hid (HA.out.keep hfv (fun h => h))
  have HT6 := Lib.hid (HT5.out.no hfv)
  have HI1 : Hid (In w6 (fun k => w4.heap.size ≤ k) a1 (bs own)) := Lib.hid (hrd.sub fun k _ hk => hk.elim (fun h => h.elim) (fun h => Nat.le_trans HGw5.out h.1))
  have HGw6 : Hid (w4.heap.size ≤ w6.heap.size) := Lib.hid (Nat.le_trans HGw5.out hfv.size)
  have HI2 := Lib.hid (HI2.out.keep hfv (fun _ _ h => h))
  rw [if_pos (by rfl)]
  refine oper_convert_run _ _ _ rfl rfl hcv ?_
  refine hK.out _ _ HA.out ?_
  clear hK K hcv hrd hfv hb1_ hb2_
  try simp only [Act.put, List.setIfInBounds_toArray, List.set_cons_zero, List.set_cons_succ]
  refine wpAnyH_ready (rs := [2]) (by kernel_rfl) (by simp) ?_
  refine do_drop (i := 2) rfl (fun K hK => ?_) AllReadyH.nil
  go_simp
  refine (wraw_c a1 own.size c1 (bs own) w6 (w.heap.size + 1) _ ((([] ++ enc n) ++ enc own.size) ++ enc x.val.size) false HT6.out.wr (bs_length _) (by
    have h27 := HP.out
    have hos := HOS.out
    have hbo := bs_length own
    have hbv := bs_length x.val
    simp only [List.length_append, List.length_nil] at h27 ⊢
    omega) HI1.out.rd).mono ?_
  intro e w7 hr_
  obtain ⟨rfl, ht_, hf_⟩ := HT6.out.call hr_
  have HA := Lib.hid (HA.out.keep hf_ (fun h => h.elim (fun h => by have h : w.heap.size = w.heap.size + 1 := h; omega) (fun h => HT6.out.old _ h (by omega))))
  have HI2 := Lib.hid (HI2.out.keep hf_ (fun k hk h => h.elim (fun h => by have h : k = w.heap.size + 1 := h; have := HBL.out; omega) (fun h => absurd (HTB.out k h) (by omega))))
  have HT7 := Lib.hid ht_
  have HGw7 : Hid (w4.heap.size ≤ w7.heap.size) := Lib.hid (Nat.le_trans HGw6.out hf_.size)
  refine hK.out _ _ HA.out ?_
  clear hK K hr_ ht_ hf_
  try simp only [Act.put, List.setIfInBounds_toArray, List.set_cons_zero, List.set_cons_succ]
  refine wpAnyH_ready (rs := [6]) (by kernel_rfl) (by simp) ?_
  refine do_drop (i := 6) rfl (fun K hK => ?_) AllReadyH.nil
  go_simp
  refine (wraw_c a2 x.val.size c2 (bs x.val) w7 (w.heap.size + 1) _ (((([] ++ enc n) ++ enc own.size) ++ enc x.val.size) ++ bs own) false HT7.out.wr (bs_length _) (by
    have h27 := HP.out
    have hos := HOS.out
    have hbo := bs_length own
    have hbv := bs_length x.val
    simp only [List.length_append, List.length_nil] at h27 ⊢
    omega) HI2.out.rd).mono ?_
  intro e w8 hr_
  obtain ⟨rfl, ht_, hf_⟩ := HT7.out.call hr_
  have HA := Lib.hid (HA.out.keep hf_ (fun h => h.elim (fun h => by have h : w.heap.size = w.heap.size + 1 := h; omega) (fun h => HT7.out.old _ h (by omega))))
  have HT8 := Lib.hid ht_
  have HGw8 : Hid (w4.heap.size ≤ w8.heap.size) := Lib.hid (Nat.le_trans HGw7.out hf_.size)
  refine hK.out _ _ HA.out ?_
  clear hK K hr_ ht_ hf_
  try simp only [Act.put, List.setIfInBounds_toArray, List.set_cons_zero, List.set_cons_succ]
  refine wpAnyH_ready (rs := [7]) (by kernel_rfl) (by simp) ?_
  refine do_drop (i := 7) rfl (fun K hK => ?_) AllReadyH.nil
  go_simp
  refine (wbytes_c w8 (w.heap.size + 1) _ ((((([] ++ enc n) ++ enc own.size) ++ enc x.val.size) ++ bs own) ++ bs x.val) HT8.out.wr (by
    have h27 := HP.out
    have hos := HOS.out
    have hbo := bs_length own
    have hbv := bs_length x.val
    simp only [List.length_append, List.length_nil] at h27 ⊢
    omega)).mono ?_
  rintro e w9 ⟨a9, c9, rfl, g1, g2, g3, g4⟩
  have HA := Lib.hid (HA.out.keep g4 (fun h => h))
  have HZ : Hid (NewRow (oneB x n) w (.returned (.slice a9 ((((([] ++ enc n) ++ enc own.size) ++ enc x.val.size) ++ bs own) ++ bs x.val).length c9)) w9) := Lib.hid (by
    have f9 : Fr No w w8 := HF0.out.then_ HT8.out.fr fun k hk h => h.elim (fun h => by have h : k = w.heap.size + 1 := h; omega) (fun h => h.elim)
    have hP : ((((([] ++ enc n) ++ enc own.size) ++ enc x.val.size) ++ bs own) ++ bs x.val) = oneB x n := by
      unfold oneB
      rw [← HOB.out, ← HOS.out]
      simp only [List.nil_append, List.append_assoc]
    refine ⟨_, rfl, ?_, f9.trans g4⟩
    rw [hP] at g3
    rw [hP]
    exact g3.sub fun k _ hk => hk.elim (fun h => h.elim) (fun h => .inr ⟨Nat.le_trans f9.size h.1, h.2⟩))
  obtain ⟨n9, hn9⟩ : ∃ n9, ((((([] ++ enc n) ++ enc own.size) ++ enc x.val.size) ++ bs own) ++ bs x.val).length = n9 := ⟨_, rfl⟩
  rw [hn9] at HZ ⊢
  clear g1 g2 g3 g4 hn9
  refine hK.out _ _ HA.out ?_
  clear hK K
  try simp only [Act.put, List.setIfInBounds_toArray, List.set_cons_zero, List.set_cons_succ]
  have hHeld := HA.out
  refine take_drop (i := 8) (v := ?v8_w20) rfl (by kernel_rfl) (by kernel_rfl) (by kernel_rfl) (fun _ _ _ h => h) (Or.inl ⟨by rfl, ?h8_w20⟩) hHeld ?r8_w20
  case h8_w20 => (intro wS hSw; have c0 := hSw.cell 0; have c1 := hSw.cell 1; go_simp; all_goals (with_reducible rfl))
  simp only [Act.put, List.setIfInBounds_toArray, List.set_cons_zero, List.set_cons_succ]
  refine take_drop (i := 9) (v := ?v9_w21) rfl (by kernel_rfl) (by kernel_rfl) (by kernel_rfl) (fun _ _ _ h => h) (Or.inl ⟨by rfl, ?h9_w21⟩) hHeld ?r9_w21
  case h9_w21 => (intro wS hSw; have c0 := hSw.cell 0; have c1 := hSw.cell 1; go_simp; all_goals (with_reducible rfl))
  simp only [Act.put, List.setIfInBounds_toArray, List.set_cons_zero, List.set_cons_succ]
  refine take_drop (i := 10) (v := ?v10_w22) rfl (by kernel_rfl) (by kernel_rfl) (by kernel_rfl) (fun _ _ _ h => h) (Or.inl ⟨by rfl, ?h10_w22⟩) hHeld ?r10_w22
  case h10_w22 => (intro wS hSw; have c0 := hSw.cell 0; have c1 := hSw.cell 1; go_simp; all_goals (with_reducible rfl))
  simp only [Act.put, List.setIfInBounds_toArray, List.set_cons_zero, List.set_cons_succ]
  refine take_drop (i := 11) (v := ?v11_w23) rfl (by kernel_rfl) (by kernel_rfl) (by kernel_rfl) (fun _ _ _ h => h) (Or.inl ⟨by rfl, ?h11_w23⟩) hHeld ?r11_w23
  case h11_w23 => (intro wS hSw; have c0 := hSw.cell 0; have c1 := hSw.cell 1; go_simp; all_goals (with_reducible rfl))
  simp only [Act.put, List.setIfInBounds_toArray, List.set_cons_zero, List.set_cons_succ]
  refine take_drop (i := 12) (v := ?v12_w24) rfl (by kernel_rfl) (by kernel_rfl) (by kernel_rfl) (fun _ _ _ h => h) (Or.inl ⟨by rfl, ?h12_w24⟩) hHeld ?r12_w24
  case h12_w24 => (intro wS hSw; have c0 := hSw.cell 0; have c1 := hSw.cell 1; go_simp; all_goals (with_reducible rfl))
  simp only [Act.put, List.setIfInBounds_toArray, List.set_cons_zero, List.set_cons_succ]
  refine wpAnyH_done (by kernel_rfl) ?_ _
  clear hHeld
  go_wp2_with fail
  go_ret
  exact HZ.out
end Go.Proofs.YtlobnbbndkhcbaaGreatDoor
