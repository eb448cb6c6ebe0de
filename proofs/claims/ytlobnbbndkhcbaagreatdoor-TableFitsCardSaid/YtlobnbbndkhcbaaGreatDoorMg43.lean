/-
  Texts of layer 13 and of what it stands on, one behind the other.
-/
import Derived.Test.YtlobnbbndkhcbaaGreatDoorMg42
import Derived.Test.YtlobnbbndkhcbaaGreatDoorMg41
import Derived.Test.YtlobnbbndkhcbaaGreatDoorMg14
import Derived.Maps.AppendAt
import Derived.Test.YtlobnbbndkhcbaaGreatDoorMg23

/- Layer 13, the program's own: a table in memory (TbM); Open. -/
namespace Go.Proofs.YtlobnbbndkhcbaaGreatDoor
set_option linter.unusedVariables false
set_option linter.unusedSimpArgs false
open Go.RowKit

/-- A TABLE IN MEMORY: its block, its footprint, its entries, the number of its data blocks. -/
def TbM (w : World) (t : Nat) (F : Nat → Prop) (l : List Ent) (c : Nat) : Prop :=
  F t ∧ (∀ k, F k → k < w.heap.size) ∧ ∃ ea ec bf g fb p, At w t 103 #[.slice ea l.length ec, .pointer (some ⟨bf, 0, none⟩), .int .i64 (c : Int)] ∧ l.length ≤ ec ∧ ec ≤ maxLen ∧ Ents w F ea l ∧ Fil w bf g fb p ∧ F bf ∧ F g ∧
    RightL l ∧ Few l ∧ (∀ x ∈ l, hasB fb (places (bs x.u) (8 * fb.length) p) = true) ∧ 0 < fb.length ∧ fb.length ≤ 1000000 ∧ p ≤ 64
theorem TbM.keep {w w' : World} {t : Nat} {F S : Nat → Prop} {l : List Ent} {c : Nat} (h : TbM w t F l c) (f : Fr S w w') (hn : ∀ k, F k → ¬ S k) : TbM w' t F l c := by
  obtain ⟨h1, h2, ea, ec, bf, g, fb, p, h3, h4, h5, h6, h7, h8, h9, h10⟩ := h
  exact ⟨h1, fun k hk => Nat.lt_of_lt_of_le (h2 k hk) f.size, ea, ec, bf, g, fb, p, h3.keep f (hn t h1), h4, h5, h6.keep f hn, h7.keep f (hn bf h8) (hn g h9), h8, h9, h10⟩
theorem filBs_len (l : List Ent) (n : Nat) : (filBs l n).length = sizeB l.length n := by rw [← filK_all, filK_len _ _ _ (Nat.le_refl _)]
set_option maxRecDepth 100000 in
set_option maxHeartbeats 8000000 in
theorem topen_c (w : World) (a : Option Addr) (n cap : Nat) (b : List UInt8) (ht : Tab w) (hn : b.length = n) (hc : n ≤ cap) (hm : cap ≤ maxLen) (h5 : n ≤ 50000) (hr : Rd w a b) :
    Calls Tryz.prog 18 #[.slice a n cap] w (OpenT TBp NBp TbM b w) := by
  have CR := Lib.hid (read13_c w a n cap b ht hn hc hm h5 hr)
  have HB : Hid (b.length ≤ 50000) := Lib.hid (by omega)
  have HN := Lib.hid hn
  have HT := Lib.hid ht
  have HR := Lib.hid hr
  clear ht hn hr
  go_enter Tryz.func18, Tryz.ntmps18
  go_wp2_with fail
  refine (show Calls _ _ _ _ _ from CR.out).mono ?_
  rintro e1 w1 (⟨Ls, l, t, ve, bf, g, fb, p, o, hG, hfil, hp1, hp2, ho, rfl, hat, hrow, hf, zt, zo, zb, zg, f1⟩ | ⟨hno, ⟨o, rfl⟩, f1⟩)
  · have HBIG : Hid (∀ l' o', OkO o' → RightL l' → TBp l' o' = b → l' = l ∧ NBp l' o' = Ls.length ∧ fb = filBs l o'.n.toNat ∧ p = probF o'.n.toNat ∧ OkO o ∧ TBp l o = b) := Lib.hid fun l' o' h1 h2 h3 => by
      subst h3
      obtain ⟨Ls', g1, g2, g3, g4, g5⟩ := good_tb HB.out h2 h1
      obtain ⟨rfl, rfl⟩ := good_one (Nat.le_trans HB.out (by omega)) hG g1
      rw [hfil] at g3
      unfold filP at g3
      obtain ⟨q1, q2⟩ := List.cons.inj g3
      have q3 : p = probF o'.n.toNat := by
        have := congrArg UInt8.toNat q1
        rwa [toNat_of _ (by omega), toNat_of _ (by have := probF_le o'.n.toNat (by have := h1.2.2.2.2.2; omega); omega)] at this
      rw [ho, q2, q3]
      exact ⟨rfl, g2.symm, rfl, rfl, g4, g5⟩
    have HFEW := Lib.hid (good_few HB.out hG)
    have HG := Lib.hid hG
    obtain ⟨ea, ec, rfl, hec1, hec2, hen⟩ := hrow.ents
    obtain ⟨W2, hW2⟩ : ∃ W, w1.alloc (.cells #[.int .i64 o.b, .int .i64 o.e, .int .i64 o.n] 24) = W := ⟨_, rfl⟩
    have f2 : Fr No w1 W2 := by rw [← hW2]; exact (Fr.refl No w1).alloc _
    have a2 : At W2 w1.heap.size 24 #[.int .i64 o.b, .int .i64 o.e, .int .i64 o.n] := by rw [← hW2]; exact At.new _ _ _
    have HA := Lib.hid (hat.keep f2 (fun h => h))
    have HE := Lib.hid (hen.keep f2 (fun _ _ h => h))
    have HF := Lib.hid (hf.keep f2 (fun h => h) (fun h => h))
    have HA2 := Lib.hid a2
    have HW2 := Lib.hid hW2
    have F2 := Lib.hid (f1.trans f2)
    have HOWN : Hid (∀ k, (Value.slice ea l.length ec).ownBlock = some k → w.heap.size ≤ k ∧ k < w1.heap.size) := Lib.hid fun k hk => ⟨zo k hk, (hrow.1.lt k hk).2⟩
    have ZZ := Lib.hid (And.intro zt (And.intro zb zg))
    have HP := Lib.hid (And.intro hp1 hp2)
    obtain ⟨ln, hln⟩ : ∃ ln, l.length = ln := ⟨_, rfl⟩
    have HLN := Lib.hid hln
    clear hG hfil hat hrow hf zt zo zb zg f1 hen f2 a2 hW2 hp1 hp2
    rw [hln] at hec1
    have c0 := HA.out.cell 0
    have o0 := HA2.out.cell 0
    have o1 := HA2.out.cell 1
    have o2 := HA2.out.cell 2
    simp at c0 o0 o1 o2
    rw [hln] at c0
    have CB := Lib.hid (fun w' (f : Fr No W2 w') => tbuild_c w' (Own1 (.slice ea l.length ec)) ea ln ec l o (n : Int) (HT.out.keep (F2.out.trans f) (fun h => h)) hln hec1 hec2 HFEW.out (HE.out.keep f (fun _ _ h => h)))
    unfold optV at CB
    clear hln ho CR
    unfold optV
    go_wp2_with fail
    rw [HW2.out]
    refine wp_region_held_drew (S := (fun w' => w'.cell? ⟨t, 0, none⟩ = some (.slice ea ln ec) ∧ w'.cell? ⟨w1.heap.size, 0, none⟩ = some (.int .i64 o.b) ∧ w'.cell? ⟨w1.heap.size, 1, none⟩ = some (.int .i64 o.e) ∧ w'.cell? ⟨w1.heap.size, 2, none⟩ = some (.int .i64 o.n))) (by kernel_rfl) ⟨(Fr.refl No _).drew.cell c0 (fun h => h), (Fr.refl No _).drew.cell o0 (fun h => h), (Fr.refl No _).drew.cell o1 (fun h => h), (Fr.refl No _).drew.cell o2 (fun h => h)⟩ (fun hHeld => ?_)
    refine take_drop (i := 0) (v := ?v0_1) rfl (by kernel_rfl) (by kernel_rfl) (by kernel_rfl) (fun _ _ _ h => h) (Or.inl ⟨by rfl, ?h0_1⟩) hHeld ?r0_1
    case h0_1 => (intro wS hSw; obtain ⟨s1, s2, s3, s4⟩ := hSw; go_simp; all_goals (with_reducible rfl))
    simp only [Act.put, List.setIfInBounds_toArray, List.set_cons_zero, List.set_cons_succ]
    refine take_drop (i := 1) (v := ?v1_1) rfl (by kernel_rfl) (by kernel_rfl) (by kernel_rfl) (fun _ _ _ h => h) (Or.inl ⟨by rfl, ?h1_1⟩) hHeld ?r1_1
    case h1_1 => (intro wS hSw; obtain ⟨s1, s2, s3, s4⟩ := hSw; go_simp; all_goals (with_reducible rfl))
    simp only [Act.put, List.setIfInBounds_toArray, List.set_cons_zero, List.set_cons_succ]
    refine take_drop (i := 2) (v := ?v2_1) rfl (by kernel_rfl) (by kernel_rfl) (by kernel_rfl) (fun _ _ _ h => h) (Or.inl ⟨by rfl, ?h2_1⟩) hHeld ?r2_1
    case h2_1 => (intro wS hSw; obtain ⟨s1, s2, s3, s4⟩ := hSw; go_simp; all_goals (with_reducible rfl))
    simp only [Act.put, List.setIfInBounds_toArray, List.set_cons_zero, List.set_cons_succ]
    refine take_drop (i := 3) (v := ?v3_1) rfl (by kernel_rfl) (by kernel_rfl) (by kernel_rfl) (fun _ _ _ h => h) (Or.inl ⟨by rfl, ?h3_1⟩) hHeld ?r3_1
    case h3_1 => (intro wS hSw; obtain ⟨s1, s2, s3, s4⟩ := hSw; go_simp; all_goals (with_reducible rfl))
    simp only [Act.put, List.setIfInBounds_toArray, List.set_cons_zero, List.set_cons_succ]
    refine take_drop (i := 4) (v := ?v4_1) rfl (by kernel_rfl) (by kernel_rfl) (by kernel_rfl) (fun _ _ _ h => h) (Or.inl ⟨by rfl, ?h4_1⟩) hHeld ?r4_1
    case h4_1 => (intro wS hSw; obtain ⟨s1, s2, s3, s4⟩ := hSw; go_simp; all_goals (with_reducible rfl))
    simp only [Act.put, List.setIfInBounds_toArray, List.set_cons_zero, List.set_cons_succ]
    refine take_drop (i := 5) (v := ?v5_1) rfl (by kernel_rfl) (by kernel_rfl) (by kernel_rfl) (fun _ _ _ h => h) (Or.inl ⟨by rfl, ?h5_1⟩) hHeld ?r5_1
    case h5_1 => (intro wS hSw; obtain ⟨s1, s2, s3, s4⟩ := hSw; go_simp; all_goals (with_reducible rfl))
    simp only [Act.put, List.setIfInBounds_toArray, List.set_cons_zero, List.set_cons_succ]
    refine take_drop (i := 6) (v := ?v6_1) rfl (by kernel_rfl) (by kernel_rfl) (by kernel_rfl) (fun _ _ _ h => h) (Or.inl ⟨by rfl, ?h6_1⟩) hHeld ?r6_1
    case h6_1 => (intro wS hSw; obtain ⟨s1, s2, s3, s4⟩ := hSw; go_simp; all_goals (with_reducible rfl))
    simp only [Act.put, List.setIfInBounds_toArray, List.set_cons_zero, List.set_cons_succ]
    obtain ⟨w3, hw3⟩ : ∃ w3, W2.drew = w3 := ⟨_, rfl⟩
    rw [hw3] at hHeld ⊢
    have f3 : Fr No W2 w3 := by rw [← hw3]; exact (Fr.refl No W2).drew
    clear hw3
    refine wpAnyH_ready (rs := [7]) (by kernel_rfl) (by simp) ?_
    refine do_drop (i := 7) rfl (fun K hK => ?_) AllReadyH.nil
    go_simp
    refine (CB.out w3 f3).mono ?_
    rintro e4 w4 ⟨v4, rfl, r4, f4⟩
    have hHeld := (show _ ∧ _ ∧ _ ∧ _ from ⟨f4.cell hHeld.1 (fun h => h), f4.cell hHeld.2.1 (fun h => h), f4.cell hHeld.2.2.1 (fun h => h), f4.cell hHeld.2.2.2 (fun h => h)⟩)
    obtain ⟨ra, rc, rfl, _, _, r4i⟩ := r4.form
    have F4 := Lib.hid (F2.out.trans (f3.trans f4))
    have F24 := Lib.hid (f3.trans f4)
    have RI := Lib.hid r4i
    refine hK.out _ _ hHeld ?_
    clear hK K f3 f4 r4 r4i
    try simp only [Act.put, List.setIfInBounds_toArray, List.set_cons_zero, List.set_cons_succ]
    refine take_drop (i := 8) (v := ?v8_1) rfl (by kernel_rfl) (by kernel_rfl) (by kernel_rfl) (fun _ _ _ h => h) (Or.inl ⟨by rfl, ?h8_1⟩) hHeld ?r8_1
    case h8_1 => (intro wS hSw; obtain ⟨s1, s2, s3, s4⟩ := hSw; go_simp; all_goals (with_reducible rfl))
    simp only [Act.put, List.setIfInBounds_toArray, List.set_cons_zero, List.set_cons_succ]
    refine take_drop (i := 9) (v := ?v9_1) rfl (by kernel_rfl) (by kernel_rfl) (by kernel_rfl) (fun _ _ _ h => h) (Or.inl ⟨by rfl, ?h9_1⟩) hHeld ?r9_1
    case h9_1 => (intro wS hSw; obtain ⟨s1, s2, s3, s4⟩ := hSw; go_simp; all_goals (with_reducible rfl))
    simp only [Act.put, List.setIfInBounds_toArray, List.set_cons_zero, List.set_cons_succ]
    refine take_drop (i := 10) (v := ?v10_1) rfl (by kernel_rfl) (by kernel_rfl) (by kernel_rfl) (fun _ _ _ h => h) (Or.inl ⟨by rfl, ?h10_1⟩) hHeld ?r10_1
    case h10_1 => (intro wS hSw; obtain ⟨s1, s2, s3, s4⟩ := hSw; go_simp; all_goals (with_reducible rfl))
    simp only [Act.put, List.setIfInBounds_toArray, List.set_cons_zero, List.set_cons_succ]
    refine take_drop (i := 11) (v := ?v11_1) rfl (by kernel_rfl) (by kernel_rfl) (by kernel_rfl) (fun _ _ _ h => h) (Or.inl ⟨by rfl, ?h11_1⟩) hHeld ?r11_1
    case h11_1 => (intro wS hSw; obtain ⟨s1, s2, s3, s4⟩ := hSw; go_simp; all_goals (with_reducible rfl))
    simp only [Act.put, List.setIfInBounds_toArray, List.set_cons_zero, List.set_cons_succ]
    refine take_drop (i := 12) (v := ?v12_1) rfl (by kernel_rfl) (by kernel_rfl) (by kernel_rfl) (fun _ _ _ h => h) (Or.inl ⟨by rfl, ?h12_1⟩) hHeld ?r12_1
    case h12_1 => (intro wS hSw; obtain ⟨s1, s2, s3, s4⟩ := hSw; go_simp; all_goals (with_reducible rfl))
    simp only [Act.put, List.setIfInBounds_toArray, List.set_cons_zero, List.set_cons_succ]
    refine wpAnyH_done (by kernel_rfl) ?_ _
    clear hHeld
    obtain ⟨B, hB⟩ : ∃ B, (if buildTE TBp l o (n : Int) = 0 then TBp l o else []) = B := ⟨_, rfl⟩
    rw [hB] at RI ⊢
    obtain ⟨E, hE⟩ : ∃ E, buildTE TBp l o (n : Int) = E := ⟨_, rfl⟩
    rw [hE]
    have HBB := Lib.hid hB
    have HEE := Lib.hid hE
    have HNO : Hid ((∀ l' o', OkO o' → RightL l' → TBp l' o' ≠ b) → OpenT TBp NBp TbM b w (.returned (.tuple #[.pointer none, .int .i64 130])) w4) := Lib.hid fun h => .inr ⟨h, rfl, F4.out⟩
    have HYES0 : Hid (OkO o → RightL l → buildTE TBp l o (n : Int) = if (n : Int) < (TBp l o).length then 201 else 0) := Lib.hid fun h1 h2 => by
      unfold buildTE
      rw [if_neg (fun h => h h1), if_neg (fun h => h h2)]
    obtain ⟨bn, hbn⟩ : ∃ bn, B.length = bn := ⟨_, rfl⟩
    rw [hbn]
    have HBN := Lib.hid hbn
    by_cases hE0 : E = 0
    · have hok : OkO o ∧ RightL l := by
        rw [← hE] at hE0
        unfold buildTE at hE0
        by_cases h1 : OkO o
        · rw [if_neg (fun h => h h1)] at hE0
          by_cases h2 : RightL l
          · exact ⟨h1, h2⟩
          · rw [if_pos h2] at hE0
            omega
        · rw [if_pos h1] at hE0
          omega
      have HBT : Hid (B = TBp l o) := Lib.hid (by rw [← hB, hE, if_pos hE0])
      have HOK := Lib.hid hok
      have d1 : (E != 0) = false := by rw [hE0]; rfl
      have CE := Lib.hid (equalB_c ra a bn rc n cap B b w4 hbn HN.out RI.out.rd (HR.out.keep F4.out))
      clear hB hE hbn hok
      by_cases heq : B = b
      · have hbq : (B == b) = true := by rw [heq]; exact beq_self_eq_true _
        rw [hbq] at CE
        have HZ : Hid (OpenT TBp NBp TbM b w (.returned (.tuple #[.pointer (some ⟨t, 0, none⟩), .int .i64 0])) w4) := Lib.hid (by
          have htb : TBp l o = b := by rw [← HBT.out]; exact heq
          obtain ⟨q1, q2, q3, q4, _, _⟩ := HBIG.out l o HOK.out.1 HOK.out.2 htb
          have hch := cuts_chain o.b.toNat (prsE l)
          have hcl := chain_le _ _ _ hch
          rw [prsE_len] at hcl
          have hbits : o.n.toNat ≤ 32 ∧ 1 ≤ o.n.toNat := by have := HOK.out.1.2.2.2.2; omega
          have hmul : l.length * o.n.toNat ≤ 17000 * 32 := Nat.mul_le_mul HFEW.out.len hbits.1
          refine .inl ⟨t, fun k => k = t ∨ k = bf ∨ k = g ∨ Own1 (.slice ea l.length ec) k, l, Ls.length, rfl, ⟨.inl rfl, ?_, ea, ec, bf, g, fb, p, HA.out.keep F24.out (fun h => h), by rw [HLN.out]; exact hec1, hec2, ?_, HF.out.keep F24.out (fun h => h) (fun h => h), .inr (.inl rfl), .inr (.inr (.inl rfl)), HOK.out.2, HFEW.out, ?_, ?_, ?_, ?_⟩, ?_, HOK.out.2, ?_, ?_, ?_, ?_, ?_, F4.out⟩
          · intro k hk
            have s4 := F24.out.size
            have s2 := HF.out.lt
            have s3 := HA.out.lt
            rcases hk with rfl | rfl | rfl | hk
            · omega
            · omega
            · omega
            · have := HOWN.out k hk
              have := HA2.out.lt
              omega
          · exact (HE.out.keep F24.out (fun _ _ h => h)).sub fun k _ hk => .inr (.inr (.inr hk))
          · rw [q3, q4]
            exact fun x hx => fil_has l _ x hx
          · rw [q3, filBs_len]
            unfold sizeB
            omega
          · rw [q3, filBs_len]
            unfold sizeB
            omega
          · have := HP.out.2
            omega
          · intro k hk
            rcases hk with rfl | rfl | rfl | hk
            · exact ZZ.out.1
            · exact ZZ.out.2.1
            · exact ZZ.out.2.2
            · exact (HOWN.out k hk).1
          · intro x hx
            have h9 := HG.out.rt x hx
            have h8 := HFEW.out.vs x hx
            obtain ⟨_, r1, r2, r3, r4, r5⟩ := h9
            refine ⟨by unfold maxLen; omega, ?_, ?_, by unfold maxLen; omega⟩
            · simp [Lit.wf, IntKind.min, IntKind.max, IntKind.signed, IntKind.bits]; omega
            · simp [Lit.wf, IntKind.min, IntKind.max, IntKind.signed, IntKind.bits]; omega
          · exact HG.out.pos
          · rw [← q2]
            unfold NBp
            omega
          · exact HG.out.foot
          · intro l' o' h1 h2 h3
            obtain ⟨r1, r2, _⟩ := HBIG.out l' o' h1 h2 h3
            exact ⟨r1, r2⟩)
        subst hE0
        clear heq hbq
        go_wp2_with fail
        refine (show Calls _ _ _ _ _ from CE.out).mono ?_
        rintro e5 w5 ⟨rfl, rfl⟩
        go_wp2_with fail
        go_ret2
        exact HZ.out
      · have hbq : (B == b) = false := by rw [beq_eq_false_iff_ne]; exact heq
        rw [hbq] at CE
        have HZ := Lib.hid (HNO.out fun l' o' h1 h2 h3 => by
          obtain ⟨_, _, _, _, _, q⟩ := HBIG.out l' o' h1 h2 h3
          exact heq (by rw [HBT.out]; exact q))
        subst hE0
        clear heq hbq
        go_wp2_with fail
        refine (show Calls _ _ _ _ _ from CE.out).mono ?_
        rintro e5 w5 ⟨rfl, rfl⟩
        go_wp2_with fail
        go_ret2
        exact HZ.out
    · have d1 : (E != 0) = true := by rw [bne_iff_ne]; exact hE0
      have HZ := Lib.hid (HNO.out fun l' o' h1 h2 h3 => by
        obtain ⟨rfl, _, _, _, q5, q6⟩ := HBIG.out l' o' h1 h2 h3
        apply hE0
        rw [← hE, HYES0.out q5 h2, q6, HN.out, if_neg (by omega)])
      clear hE0 hB hE hbn
      go_wp2_with fail
      go_ret2
      exact HZ.out
  · have HZ : Hid (OpenT TBp NBp TbM b w (.returned (.tuple #[.pointer none, .int .i64 130])) (w1.alloc (.cells #[.int .i64 o.b, .int .i64 o.e, .int .i64 o.n] 24))) := Lib.hid (.inr ⟨fun l' o' h1 h2 h3 => by
      subst h3
      obtain ⟨Ls', g1, _⟩ := good_tb HB.out h2 h1
      exact hno _ _ g1, rfl, f1.alloc _⟩)
    clear hno f1 CR
    unfold optV
    go_wp2_with fail
    go_ret2
    exact HZ.out
end Go.Proofs.YtlobnbbndkhcbaaGreatDoor

/- Layer 13, the program's own: Len, Blocks, Small, Large, Entries, May. -/
namespace Go.Proofs.YtlobnbbndkhcbaaGreatDoor
set_option linter.unusedVariables false
set_option linter.unusedSimpArgs false
open Go.RowKit

set_option maxHeartbeats 400000 in
theorem tlen_c {w : World} {t : Nat} {F : Nat → Prop} {l : List Ent} {c : Nat} (h : TbM w t F l c) : Calls Tryz.prog 21 #[.pointer (some ⟨t, 0, none⟩)] w (PlainRet (.int .i64 (l.length : Int)) w) := by
  obtain ⟨_, _, ea, ec, bf, g, fb, p, hat, _⟩ := h
  have c0 := hat.cell 0
  simp at c0
  clear hat
  generalize l.length = n at *
  go_enter Tryz.func21, Tryz.ntmps21
  go_wp2_with fail
  go_ret
  exact ⟨rfl, Fr.refl _ _⟩
set_option maxHeartbeats 400000 in
theorem tblocks_c {w : World} {t : Nat} {F : Nat → Prop} {l : List Ent} {c : Nat} (h : TbM w t F l c) : Calls Tryz.prog 22 #[.pointer (some ⟨t, 0, none⟩)] w (PlainRet (.int .i64 (c : Int)) w) := by
  obtain ⟨_, _, ea, ec, bf, g, fb, p, hat, _⟩ := h
  have c0 := hat.cell 2
  simp at c0
  clear hat
  go_enter Tryz.func22, Tryz.ntmps22
  go_wp2_with fail
  go_ret
  exact ⟨rfl, Fr.refl _ _⟩
theorem key_results {f : Func} (hf : f.results = #[.cell 2 46]) (tmps : Array Value) (w : World) (g : Nat) (x y z : Value) (hp : tmps.getD 2 undef = .pointer (some ⟨g, 0, none⟩)) (hg : At w g 46 #[x, y, z]) :
    (results f tmps).run Tryz.prog w = .ok (.agg #[x, y, z]) w := by
  have hp' : tmps[2]?.getD undef = .pointer (some ⟨g, 0, none⟩) := by simpa using hp
  have hl := run_loadVar_row (P := Tryz.prog) w g 46 46 #[x, y, z] (0, 0) _ hg Tryz.underlying46 rfl infoKey
  simp [results, hf, hp', asAddr, hl]
set_option maxRecDepth 20000 in
set_option maxHeartbeats 1600000 in
theorem tsmall_c {w : World} {t : Nat} {F : Nat → Prop} {l : List Ent} {c : Nat} (h : TbM w t F l c) : Calls Tryz.prog 24 #[.pointer (some ⟨t, 0, none⟩)] w (PlainRet (keyV (l.getD 0 ent0)) w) := by
  obtain ⟨_, _, ea, ec, bf, g, fb, p, hat, _, _, hen, _, _, _, hr, _⟩ := h
  have h1 := hr.2.1
  obtain ⟨b, o, _, rfl, hx⟩ := hen (by omega)
  have hx := hx 0 (by omega)
  obtain ⟨W, hW⟩ : ∃ W, w.alloc (.cells #[.string ⟨#[]⟩, .int .i64 0, .int .i64 0] 46) = W := ⟨_, rfl⟩
  have f0 : Fr No w W := by rw [← hW]; exact (Fr.refl No w).alloc _
  have a0 : At W w.heap.size 46 #[.string ⟨#[]⟩, .int .i64 0, .int .i64 0] := by rw [← hW]; exact At.new _ _ _
  have c0 := f0.cell (hat.cell 0) (fun h => h)
  obtain ⟨x, hxe⟩ : ∃ x, l.getD 0 ent0 = x := ⟨_, rfl⟩
  rw [hxe] at hx ⊢
  have d0 := f0.cell hx.c0 (fun h => h)
  have d1 := f0.cell hx.c1 (fun h => h)
  have d2 := f0.cell hx.c2 (fun h => h)
  simp at c0 d0 d1 d2
  have z0 := a0.frozen 0
  have z1 := (a0.set_ 0 (.string x.u)).frozen 1
  have z2 := ((a0.set_ 0 (.string x.u)).set_ 1 (.int .i64 x.q)).frozen 2
  have y0 := a0.cell 0
  have y1 := (a0.set_ 0 (.string x.u)).cell 1
  have y2 := ((a0.set_ 0 (.string x.u)).set_ 1 (.int .i64 x.q)).cell 2
  have AZ := Lib.hid (((a0.set_ 0 (.string x.u)).set_ 1 (.int .i64 x.q)).set_ 2 (.int .i64 x.k))
  have FZ := Lib.hid (((f0.setCell (p := ⟨w.heap.size, 0, none⟩) (fun h => absurd h (Nat.lt_irrefl _)) (.string x.u)).setCell (p := ⟨w.heap.size, 1, none⟩) (fun h => absurd h (Nat.lt_irrefl _)) (.int .i64 x.q)).setCell (p := ⟨w.heap.size, 2, none⟩) (fun h => absurd h (Nat.lt_irrefl _)) (.int .i64 x.k))
  rw [← hW] at c0 d0 d1 d2 z0 z1 z2 y0 y1 y2
  have HW := Lib.hid hW
  have hln : (0 : Int) < (l.length : Int) := by omega
  have hln2 : 0 < l.length := by omega
  clear hat hen hr hx hxe hW f0 a0
  generalize l.length = n at *
  go_enter Tryz.func24, Tryz.ntmps24
  go_wp2_with fail
  try rw [HW.out]
  first
    | exact bodyPost_ret (key_results rfl _ _ _ _ _ _ rfl AZ.out) rfl ⟨rfl, FZ.out⟩
    | exact bodyPost_ret (key_results rfl _ _ _ _ _ _ rfl (At.new _ _ _)) rfl ⟨rfl, (Fr.refl No w).alloc _⟩
/-- Appended entries. -/
theorem ents_append {P : Program} {t e : TypeId} {z : Value} (hT : RowT P t e z 4 48) {w : World} {S : Nat → Prop} {v : Value} {o l : List Ent} {b of : Nat} {c : Nat} (h : RowG w S e 4 v o.length (entsC o)) (hS : ∀ x, S x → x < w.heap.size) (h0 : 0 < l.length) (hr : ∀ i, i < l.length → EntAt w b (of + i * 4) (l.getD i ent0)) (hn : o.length + l.length ≤ 1000000) :
    ∃ v' w', (Builtin.append_ #[t, t] t #[v, .slice (some ⟨b, of, none⟩) l.length c]).run P w = .ok v' w' ∧ RowG w' (Gr S w w') e 4 v' (o ++ l).length (entsC (o ++ l)) ∧ Fr S w w' := by
  obtain ⟨i0, hi, hz0, hz1, hz2⟩ := info_parts hT.info
  have hcells : ∀ j u, (entsC l)[j]? = some u → w.cell? ((⟨b, of, none⟩ : Addr).add j) = some u := fun j u hj => by
    have hlen : j < l.length * 4 := by
      rcases Nat.lt_or_ge j (l.length * 4) with h1 | h1
      · exact h1
      · rw [List.getElem?_eq_none (by rw [entsC_length]; exact h1)] at hj; cases hj
    rw [add_at]
    obtain ⟨g0, g1, g2, g3⟩ := entsC_get l (j / 4) (by omega)
    obtain ⟨c0, c1, c2, c3⟩ := hr (j / 4) (by omega)
    rcases (show j % 4 = 0 ∨ j % 4 = 1 ∨ j % 4 = 2 ∨ j % 4 = 3 by omega) with h2 | h2 | h2 | h2
    · rw [show j / 4 * 4 = j by omega] at g0 c0
      rw [c0, ← g0, hj]
    · rw [show j / 4 * 4 + 1 = j by omega] at g1
      rw [show of + j / 4 * 4 + 1 = of + j by omega] at c1
      rw [c1, ← g1, hj]
    · rw [show j / 4 * 4 + 2 = j by omega] at g2
      rw [show of + j / 4 * 4 + 2 = of + j by omega] at c2
      rw [c2, ← g2, hj]
    · rw [show j / 4 * 4 + 3 = j by omega] at g3
      rw [show of + j / 4 * 4 + 3 = of + j by omega] at c3
      rw [c3, ← g3, hj]
  have hone : ∀ u ∈ entsC l, u.oneCell' = true := by
    intro u hu
    unfold entsC at hu
    obtain ⟨p, _, hp⟩ := List.mem_flatMap.1 hu
    simp [entC] at hp
    rcases hp with rfl | rfl | rfl | rfl <;> rfl
  obtain ⟨v', w', hrun, h2, h3, _, h5⟩ := run_append_own_at (P := P) w 0 t t e i0 z 4 48 hT.und hi hz0 hz1 hz2 hT.zc hT.pos v o.length (entsC o) h.1
    ⟨b, of, none⟩ l.length c (entsC l) (entsC_length l) hcells hone (by unfold maxLen; omega) (by omega) (Nat.zero_le _)
  have hf3 := Fr.grown h3 h.2
  refine ⟨v', w', hrun, ⟨?_, fun x hx => ?_⟩, hf3⟩
  · rw [List.length_append, entsC_append]
    exact h2
  · rcases h5 with h5 | h5
    · exact .inl (h.2 x (h5 ▸ hx))
    · rw [h5] at hx
      have hk : w.heap.size = x := Option.some.inj hx
      have h6 := (h2.lt x (by rw [h5, hk])).2
      exact .inr ⟨by omega, h6⟩
theorem rowG_empty (w : World) (e : TypeId) (k : Nat) : RowG (w.alloc (.cells #[] e)) (Gr No w (w.alloc (.cells #[] e))) e k (.slice (some ⟨w.heap.size, 0, none⟩) 0 0) 0 [] :=
  ⟨⟨by simp, .inr ⟨w.heap.size, 0, #[], rfl, Nat.zero_le _, heap_alloc_new w _, Nat.le_refl _, by simp [maxLen], by simp, by simp⟩⟩, fun b hb => by
    have hb : w.heap.size = b := by simpa [Value.ownBlock] using hb
    exact .inr ⟨by omega, by simp; omega⟩⟩
set_option maxRecDepth 20000 in
set_option maxHeartbeats 1600000 in
theorem tentries_c {w : World} {t : Nat} {F : Nat → Prop} {l : List Ent} {c : Nat} (h : TbM w t F l c) : Calls Tryz.prog 20 #[.pointer (some ⟨t, 0, none⟩)] w (NewEnts 49 l w) := by
  obtain ⟨_, _, ea, ec, bf, g, fb, p, hat, _, _, hen, _, _, _, hr, hfew, _⟩ := h
  have h1 := hr.2.1
  have h17 := hfew.len
  obtain ⟨b, o, _, rfl, hx⟩ := hen (by omega)
  have c0 := hat.cell 0
  simp at c0
  have f0 := (Fr.refl No w).alloc (.cells #[] 49)
  obtain ⟨v1, w1, hrun, hrow, hfr⟩ := ents_append (P := Tryz.prog) rowEnt (c := ec) (rowG_empty w 49 4) (fun q hq => hq.elim (fun h => h.elim) (fun h => h.2)) (o := []) (by omega) (fun i hi => (hx i hi).keep f0 (fun h => h)) (by simp; omega)
  rw [List.nil_append] at hrow
  have CC : Calls Tryz.prog 54 #[.slice (some ⟨b, o, none⟩) l.length ec] w (NewEnts 49 l w) := by
    have HRUN := Lib.hid hrun
    have HZ : Hid (NewEnts 49 l w (.returned v1) w1) := Lib.hid ⟨v1, rfl, hrow.join f0.size hfr.size, f0.then_ hfr fun q hq h => h.elim (fun h => h) (fun h => absurd hq (by omega))⟩
    clear hrun hrow hfr f0 hat hen hr hx c0
    generalize l.length = n at *
    have he : ∀ w : World, (binOp .eql 22 (.slice (some ⟨b, o, none⟩) n ec) (.slice none 0 0)).run Tryz.prog w = .ok (.bool false) w := fun _ => rfl
    go_enter Tryz.func54, Tryz.ntmps54
    go_wp2_with (at_builtin; refine wpList_append_run rfl _ _ 22 rfl rfl rfl HRUN.out ?_)
    go_ret
    exact HZ.out
  have CC := Lib.hid CC
  clear hrun hrow hfr f0 hat hen hr hx
  generalize l.length = n at *
  go_enter Tryz.func20, Tryz.ntmps20
  go_wp2_with fail
  refine (show Calls _ _ _ _ _ from CC.out).mono ?_
  rintro e w' ⟨v, rfl, q1, q2⟩
  have HZ : Hid (NewEnts 49 l w (.returned v) w') := Lib.hid ⟨v, rfl, q1, q2⟩
  clear q1 q2
  go_wp2_with fail
  go_ret
  exact HZ.out
set_option maxRecDepth 20000 in
set_option maxHeartbeats 1600000 in
theorem tmay_c {w : World} {t : Nat} {F : Nat → Prop} {l : List Ent} {c : Nat} (u : ByteArray) (ht : Tab w) (h : TbM w t F l c) (hu : u.size ≤ 300) :
    Calls Tryz.prog 26 #[.pointer (some ⟨t, 0, none⟩), .string u] w fun en w' => ∃ b, en = .returned (.bool b) ∧ ((∃ x ∈ l, x.u = u) → b = true) ∧ Fr No w w' := by
  obtain ⟨_, _, ea, ec, bf, g, fb, p, hat, _, _, _, hf, _, _, _, _, hhas, hl0, hl1, hp⟩ := h
  have c0 := hat.cell 1
  simp at c0
  obtain ⟨ua, uc, W1, hcv, _, _, hin, f1⟩ := conv_strR w u (by unfold maxLen; omega)
  have CH := Lib.hid (has_c bf g fb p ua u.size uc (bs u) W1 (hf.keep f1 (fun h => h) (fun h => h)) (bs_length _) (by omega) hin.rd (ht.keep f1 (fun h => h)) hl0 (by omega) hp)
  have HH : Hid ((∃ x ∈ l, x.u = u) → hasB fb (places (bs u) (8 * fb.length) p) = true) := Lib.hid fun ⟨x, hx, e⟩ => by rw [← e]; exact hhas x hx
  have F1 := Lib.hid f1
  generalize hasB fb (places (bs u) (8 * fb.length) p) = r at *
  clear hat hf hhas hin f1 ht
  go_enter Tryz.func26, Tryz.ntmps26
  go_wp2_with fail
  refine (show Calls _ _ _ _ _ from CH.out).mono ?_
  rintro e w2 ⟨rfl, f2⟩
  have F2 := Lib.hid (F1.out.trans f2)
  clear f2
  go_wp2_with fail
  go_ret
  exact ⟨r, rfl, HH.out, F2.out⟩
end Go.Proofs.YtlobnbbndkhcbaaGreatDoor

/- Layer 13, the program's own: mem.Pick (sort.Search, its closure), Get. -/
namespace Go.Proofs.YtlobnbbndkhcbaaGreatDoor
set_option linter.unusedVariables false
set_option linter.unusedSimpArgs false
open Go.RowKit Go.Shelf
attribute [local go_sem] Oper.semAt_some

/-- Does an entry stand at what is sought, or behind it? -/
def atP13 (u : ByteArray) (at_ : Int) (x : Ent) : Bool := decide (cmpB (bs u) (bs x.u) < 0) || (decide (x.u = u) && decide (x.q ≤ at_))
abbrev pickV (X1 X2 X3 : Nat) : Value := .func (.func 89) #[] #[.pointer (some ⟨X1, 0, none⟩), .pointer (some ⟨X2, 0, none⟩), .pointer (some ⟨X3, 0, none⟩)]
set_option maxRecDepth 20000 in
set_option maxHeartbeats 1600000 in
theorem pick1_c (l : List Ent) (b o ec n : Nat) (u : ByteArray) (at_ : Int) (X1 X2 X3 i : Nat) (w : World) (hn : l.length = n) (hi : i < n)
    (c1 : w.cell? ⟨X1, 0, none⟩ = some (.slice (some ⟨b, o, none⟩) n ec)) (c2 : w.cell? ⟨X2, 0, none⟩ = some (.string u)) (c3 : w.cell? ⟨X3, 0, none⟩ = some (.int .i64 at_)) (hx : EntAt w b (o + i * 4) (l.getD i ent0)) :
    Calls Tryz.prog 89 #[.int .i64 (i : Int), .pointer (some ⟨X1, 0, none⟩), .pointer (some ⟨X2, 0, none⟩), .pointer (some ⟨X3, 0, none⟩)] w fun en w' => en = .returned (.bool (atP13 u at_ (l.getD i ent0))) ∧ Fr No w w' := by
  obtain ⟨x, hxe⟩ : ∃ x, l.getD i ent0 = x := ⟨_, rfl⟩
  rw [hxe] at hx ⊢
  obtain ⟨e0, e1, e2, e3⟩ := hx
  obtain ⟨W, hW⟩ : ∃ W, w.alloc (.cells #[.string x.u, .int .i64 x.q, .int .i64 x.k] 46) = W := ⟨_, rfl⟩
  have f0 : Fr No w W := by rw [← hW]; exact (Fr.refl No w).alloc _
  have a0 : At W w.heap.size 46 #[.string x.u, .int .i64 x.q, .int .i64 x.k] := by rw [← hW]; exact At.new _ _ _
  have k2 := f0.cell c2 (fun h => h)
  have k3 := f0.cell c3 (fun h => h)
  have r0 := a0.cell 0
  have r1 := a0.cell 1
  have r2 := a0.cell 2
  simp at r0 r1 r2
  rw [← hW] at k2 k3 r0 r1 r2
  have HW := Lib.hid hW
  have F0 := Lib.hid f0
  have hlt : Op.bytesLess x.u.toList u.toList = decide (cmpB (bs x.u) (bs u) < 0) := by rw [less_cmp, toList_bs, toList_bs]
  have hng := cmpB_neg (bs u) (bs x.u)
  have heq := toList_eq_iff x.u u
  have hii : (i : Int) < (n : Int) := by omega
  have hi0 : (0 : Int) ≤ (i : Int) := by omega
  have CS := Lib.hid (fun w' => sees_c x.u x.q x.k at_ w')
  unfold atP13
  clear hxe hW a0 f0
  by_cases hc : cmpB (bs u) (bs x.u) < 0
  · have hne : ¬ x.u = u := fun e => by rw [e, cmpB_self] at hc; omega
    rw [decide_eq_true hc]
    rw [decide_eq_false (show ¬ cmpB (bs x.u) (bs u) < 0 by omega)] at hlt
    rw [decide_eq_false hne] at heq
    clear hc hne hng
    go_enter Tryz.func89, Tryz.ntmps89
    go_wp2_with fail
    try rw [HW.out]
    go_ret
    exact ⟨rfl, F0.out⟩
  · rw [decide_eq_false hc]
    by_cases hu : x.u = u
    · rw [decide_eq_true hu] at heq ⊢
      rw [decide_eq_false (show ¬ cmpB (bs x.u) (bs u) < 0 by rw [hu, cmpB_self]; omega)] at hlt
      clear hc hu hng
      obtain ⟨d, hd⟩ : ∃ d, decide (x.q ≤ at_) = d := ⟨_, rfl⟩
      rw [hd] at CS ⊢
      clear hd
      go_enter Tryz.func89, Tryz.ntmps89
      go_wp2_with fail
      try rw [HW.out]
      refine (CS.out _).mono ?_
      rintro e2 w2 ⟨rfl, f2⟩
      have F2 := Lib.hid (F0.out.trans f2)
      clear f2
      go_wp2_with fail
      go_ret
      exact ⟨rfl, F2.out⟩
    · have h0 : cmpB (bs x.u) (bs u) ≠ 0 := fun e => hu (bs_inj' (cmpB_zero _ _ e))
      rw [decide_eq_false hu] at heq ⊢
      rw [decide_eq_true (show cmpB (bs x.u) (bs u) < 0 by omega)] at hlt
      clear hc hu hng h0
      go_enter Tryz.func89, Tryz.ntmps89
      go_wp2_with fail
      try rw [HW.out]
      go_ret
      exact ⟨rfl, F0.out⟩
theorem cmpB_of_cmpE {x y : Ent} (h : cmpE x y < 0) : cmpB (bs x.u) (bs y.u) < 0 ∨ (x.u = y.u ∧ y.q ≤ x.q) := by
  have h : orI (cmpB (bs x.u) (bs y.u)) (cmpI y.q x.q) (cmpI y.k x.k) < 0 := h
  unfold orI at h
  split at h
  · rename_i h0
    refine .inr ⟨bs_inj' (cmpB_zero _ _ h0), ?_⟩
    split at h
    · rename_i h1
      rcases cmpI_cases y.q x.q with ⟨q1, q2⟩ | ⟨q1, q2, q3⟩ | ⟨q1, q2⟩ <;> omega
    · rcases cmpI_cases y.q x.q with ⟨q1, q2⟩ | ⟨q1, q2, q3⟩ | ⟨q1, q2⟩ <;> omega
  · exact .inl h
theorem atP_mono {l : List Ent} (h : RightL l) (u : ByteArray) (at_ : Int) {i j : Nat} (hij : i ≤ j) (hj : j < l.length) (hp : atP13 u at_ (l.getD i ent0) = true) : atP13 u at_ (l.getD j ent0) = true := by
  rcases Nat.lt_or_ge i j with h1 | h1
  · have h2 := cmpB_of_cmpE (rightL_lt' h h1 hj)
    generalize l.getD i ent0 = x at *
    generalize l.getD j ent0 = y at *
    unfold atP13 at hp ⊢
    rw [Bool.or_eq_true, Bool.and_eq_true, decide_eq_true_eq, decide_eq_true_eq, decide_eq_true_eq] at hp ⊢
    rcases hp with hp | ⟨hp1, hp2⟩
    · rcases h2 with h2 | ⟨h2, _⟩
      · exact .inl (cmpB_lt_tr hp h2)
      · rw [← h2]; exact .inl hp
    · rcases h2 with h2 | ⟨h2, h3⟩
      · rw [← hp1]; exact .inl h2
      · exact .inr ⟨by rw [← h2]; exact hp1, by omega⟩
  · obtain rfl : i = j := by omega
    exact hp
/-- What the search finds is what the key has. -/
theorem pick_is {l : List Ent} (h : RightL l) (u : ByteArray) (at_ : Int) {r : Nat} (hr : r ≤ l.length) (h1 : ∀ j, j < r → atP13 u at_ (l.getD j ent0) = false) (h2 : r < l.length → atP13 u at_ (l.getD r ent0) = true) :
    getE l u at_ = if r < l.length ∧ (l.getD r ent0).u = u then (r : Int) else -1 := by
  have hs := h.srt.first u at_
  have hno : ∀ j, j < r → sees u at_ (l.getD j ent0) = false := fun j hj => by
    have := h1 j hj
    unfold atP13 at this
    rw [Bool.or_eq_false_iff] at this
    exact this.2
  refine hs.same ?_
  by_cases hc : r < l.length ∧ (l.getD r ent0).u = u
  · rw [if_pos hc]
    refine .inr ⟨r, hc.1, rfl, ?_, hno⟩
    have := h2 hc.1
    unfold atP13 at this
    rw [hc.2, cmpB_self] at this
    unfold sees
    rw [hc.2]
    simpa using this
  · rw [if_neg hc]
    refine .inl ⟨rfl, fun j hj => ?_⟩
    rcases Nat.lt_or_ge j r with h3 | h3
    · exact hno j h3
    · have h4 : r < l.length := by omega
      have h5 : (l.getD r ent0).u ≠ u := fun e => hc ⟨h4, e⟩
      have h6 := h2 h4
      unfold atP13 at h6
      rw [decide_eq_false h5, Bool.false_and, Bool.or_false, decide_eq_true_eq] at h6
      have h7 : cmpB (bs u) (bs (l.getD j ent0).u) < 0 := by
        rcases Nat.lt_or_ge r j with h8 | h8
        · rcases cmpB_of_cmpE (rightL_lt' h h8 hj) with h9 | ⟨h9, _⟩
          · exact cmpB_lt_tr h6 h9
          · rw [← h9]; exact h6
        · obtain rfl : j = r := by omega
          exact h6
      unfold sees
      rw [decide_eq_false (fun e => by rw [e, cmpB_self] at h7; omega), Bool.false_and]
def SearchRet13 (n : Nat) (P : Nat → Bool) (w : World) (en : Ending) (w' : World) : Prop := ∃ r : Nat, en = .returned (.int .i64 (r : Int)) ∧ r ≤ n ∧ (∀ j, j < r → P j = false) ∧ (r < n → P r = true) ∧ Fr No w w'
set_option maxRecDepth 20000 in
set_option maxHeartbeats 1600000 in
theorem search13_c (n : Nat) (hn : n ≤ 1000000) (X1 X2 X3 : Nat) (P : Nat → Bool) (hmo : ∀ i j, i ≤ j → j < n → P i = true → P j = true) (w : World)
    (hf : ∀ i w', i < n → Fr No w w' → Calls Tryz.prog 89 #[.int .i64 (i : Int), .pointer (some ⟨X1, 0, none⟩), .pointer (some ⟨X2, 0, none⟩), .pointer (some ⟨X3, 0, none⟩)] w' fun en w'' => en = .returned (.bool (P i)) ∧ Fr No w' w'') :
    Calls Tryz.prog 88 #[.int .i64 (n : Int), pickV X1 X2 X3] w (SearchRet13 n P w) := by
  have HM := Lib.hid hmo
  have HC := Lib.hid hf
  clear hmo hf
  go_enter Tryz.func88, Tryz.ntmps88
  go_wp2_with fail
  go_loopw [5, 6] (fun a b wr => ∃ i j : Nat, a = .int .i64 i ∧ b = .int .i64 j ∧ i ≤ j ∧ j ≤ n ∧ (∀ k, k < i → P k = false) ∧ (j < n → P j = true) ∧ Fr No w wr) (fun a b _ => (intOf b - intOf a).toNat)
  case atStart => exact ⟨0, n, rfl, rfl, Nat.zero_le _, Nat.le_refl _, (fun k h => absurd h (Nat.not_lt_zero k)), (fun h => absurd h (Nat.lt_irrefl n)), Fr.refl _ _⟩
  case round =>
    obtain ⟨i, j, rfl, rfl, hij, hjn, h1, h2, hfr⟩ := hrel
    have H1 := Lib.hid h1
    have H2 := Lib.hid h2
    have HF := Lib.hid hfr
    clear h1 h2 hfr
    by_cases hlt : i < j
    · obtain ⟨s, hs⟩ : ∃ s, i + j = s := ⟨_, rfl⟩
      have hsi : (i : Int) + (j : Int) = (s : Int) := by omega
      obtain ⟨h, hh⟩ : ∃ h, s / 2 = h := ⟨_, rfl⟩
      have hhi : (s : Int) / 2 = (h : Int) := by omega
      have hih : i ≤ h := by omega
      have hhj : h < j := by omega
      have HCC := Lib.hid (HC.out h wr (by omega) HF.out)
      clear hs hh
      go_wp2_with fail
      refine (show Calls _ _ _ _ _ from HCC.out).mono ?_
      rintro e2 w2 ⟨rfl, f2⟩
      have HF2 := Lib.hid (HF.out.trans f2)
      clear f2 HCC
      cases hp : P h with
      | false =>
        have HN : Hid (∀ k, k < h + 1 → P k = false) := Lib.hid fun k hk => by
          cases hk2 : P k with
          | false => rfl
          | true => rw [HM.out k h (by omega) (by omega) hk2] at hp; cases hp
        clear hp
        go_wp2_with fail
        go_roundw
        case rel => exact ⟨h + 1, j, by simp, rfl, by omega, hjn, HN.out, H2.out, HF2.out⟩
        case measure => simp [intOf]; omega
      | true =>
        have HP := Lib.hid hp
        clear hp
        go_wp2_with fail
        go_roundw
        case rel => exact ⟨i, h, rfl, rfl, hih, by omega, H1.out, (fun _ => HP.out), HF2.out⟩
        case measure => simp [intOf]; omega
    · have hij2 : i = j := by omega
      subst hij2
      go_wp2_with fail
      go_ret
      exact ⟨i, rfl, hjn, H1.out, H2.out, HF.out⟩
theorem pick_results {f : Func} (hf : f.results = #[.cell 6 49, .tmp 7]) (tmps : Array Value) (w : World) (g : Nat) (a b c d v : Value) (hp : tmps.getD 6 undef = .pointer (some ⟨g, 0, none⟩)) (h7 : tmps.getD 7 undef = v) (hg : At w g 49 #[a, b, c, d]) :
    (results f tmps).run Tryz.prog w = .ok (.tuple #[.agg #[a, b, c, d], v]) w := by
  have hp' : tmps[6]?.getD undef = .pointer (some ⟨g, 0, none⟩) := by simpa using hp
  have h7' : tmps[7]?.getD undef = v := by simpa using h7
  have hl := run_loadVar_row (P := Tryz.prog) w g 49 49 #[a, b, c, d] (0, 0) _ hg Tryz.underlying49 rfl (by kernel_rfl)
  simp [results, hf, hp', h7', asAddr, hl]
end Go.Proofs.YtlobnbbndkhcbaaGreatDoor
