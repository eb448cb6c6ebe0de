/-
  Texts of layer 13 and of what it stands on, one behind the other.
-/
import Derived.Test.YtlobnbbndkhcbaaGreatDoorMg30
import Derived.Test.YtlobnbbndkhcbaaGreatDoorMg19
import Derived.Test.YtlobnbbndkhcbaaGreatDoorMg15
import Derived.Test.YtlobnbbndkhcbaaGreatDoorMg21
import Derived.Test.YtlobnbbndkhcbaaGreatDoorMg09

/- Layer 13, the program's own: the iterator over the pairs of entries (pairs). -/
namespace Go.Proofs.YtlobnbbndkhcbaaGreatDoor
set_option linter.unusedVariables false
open Go.RowKit Go.Shelf
attribute [local go_sem] Oper.semAt_some

/-- WHAT A ROUND'S BODY KEEPS: the blocks of S0. -/
structure Ks (S0 : Nat → Prop) (A B : World) : Prop where
  size : A.heap.size ≤ B.heap.size
  same : ∀ k, k < A.heap.size → S0 k → B.heap[k]? = A.heap[k]?
theorem Ks.trans {S0 : Nat → Prop} {A B C : World} (h : Ks S0 A B) (k : Ks S0 B C) : Ks S0 A C := ⟨Nat.le_trans h.size k.size, fun i hi hc => (k.same i (Nat.lt_of_lt_of_le hi h.size) hc).trans (h.same i hi hc)⟩
theorem Ks.of_fr {S0 T : Nat → Prop} {A B : World} (f : Fr T A B) (hT : ∀ k, S0 k → ¬ T k) : Ks S0 A B := ⟨f.size, fun i hi h => f.block i hi (hT i h)⟩
theorem Ks.put {S0 : Nat → Prop} (W : World) (l : Nat) (o' : Obj) (hl : ¬ S0 l) : Ks S0 W (W.putObj l o') := ⟨by simp [World.putObj], fun i hi hh => World.putObj_heap_other fun e => by subst e; exact hl hh⟩
theorem Ks.cell {S0 : Nat → Prop} {A B : World} (h : Ks S0 A B) {p : Addr} {v : Value} (hc : A.cell? p = some v) (hs : S0 p.block) : B.cell? p = some v := (World.cell?_of_block (h.same p.block (cell_block hc) hs)).trans hc
/-- WHAT AN ITERATOR OVER PAIRS L TELLS, and asks to be kept. -/
def TellsS (gf : Nat) (lb : Array Value) (L : List Pr) (S0 : Nat → Prop) (w : World) : Prop :=
  SeqStopsK Fence.wide 4 Tryz.prog gf lb (fun z : Plc L.length => #[prV (L.getD z.val pr0)]) (Ks S0) (fun ys => ys = up L.length L.length) (fun pre => pre <+: up L.length L.length) L.length w
set_option maxRecDepth 100000 in
set_option maxHeartbeats 4000000 in
theorem pairs_in (n : Nat) (hn : 1 ≤ n) (y B1 : Nat) (a : Option Addr) (ca : Nat) (l : List Ent) (S S0 : Nat → Prop) (hm : l.length ≤ 1000000) (hca : l.length ≤ ca) (h2 : ∀ k, S k → S0 k) (h3 : S0 B1) (J Jx : List (Plc (Pairs l).length) → World → Prop)
    (W : World) (hJ : AbidesFrom W.heap.size J)
    (hY : ∀ pre (z : Plc (Pairs l).length) W1, J pre W1 → pre.length < (Pairs l).length → YieldAt Fence.wide (n - 1) Tryz.prog y #[prV ((Pairs l).getD z.val pr0)] W1 fun e W' =>
      (e = .returned (.bool true) ∧ J (pre ++ [z]) W' ∧ Ks S0 W1 W') ∨ (e = .returned (.bool false) ∧ Jx (pre ++ [z]) W'))
    (b1 : W.cell? ⟨B1, 0, none⟩ = some (.slice a l.length ca)) (cr : Ents W S a l) (h0 : J [] W) :
    CallsIn Fence.wide n Tryz.prog 65 #[.func (.yield y) #[] #[], .pointer (some ⟨B1, 0, none⟩)] W fun e W' => (∃ v, e = .returned v) ∧
      ((∃ ys, ys = up (Pairs l).length (Pairs l).length ∧ J ys W') ∨ (∃ pre, pre <+: up (Pairs l).length (Pairs l).length ∧ Jx pre W')) := by
  have HY := Lib.hid hY
  have HCR := Lib.hid cr
  have HS := Lib.hid h2
  have HJ := Lib.hid hJ
  have HB := Lib.hid (fun j (h : j < (Pairs l).length) => up_step h)
  have HBL := Lib.hid (fun k (h : k ≤ (Pairs l).length) => up_len (Pairs l).length k h)
  have HPG := Lib.hid (fun i (h : i < rpre l) => pairs_get l i h)
  have HRP := Lib.hid (rpre_is l)
  have HPL := Lib.hid (pairs_len l)
  obtain ⟨m, hm'⟩ : ∃ m, m = l.length := ⟨_, rfl⟩
  obtain ⟨M, hM⟩ : ∃ M, min m 65536 = M := ⟨_, rfl⟩
  rw [← hm'] at b1 hm hca
  have hmin : min (m : Int) 65536 = (M : Int) := by omega
  have hMm : M ≤ m := by omega
  have K := fun w => cut_hiN (z := 4) Tryz.underlying22 sizeEn a m ca M (by omega) w
  have HM := Lib.hid hm'
  have HMM := Lib.hid hM
  have HEND : Hid (∀ k, k ≤ rpre l → (M ≤ k ∨ ¬ okA l k) → k = (Pairs l).length) := Lib.hid fun k hk h => by
    obtain ⟨q1, q2, q3, q4⟩ := HRP.out
    rw [HPL.out]
    have := HM.out
    have := HMM.out
    rcases Nat.lt_or_ge k (rpre l) with h5 | h5
    · rcases h with h | h
      · omega
      · exact absurd (q3 k h5) h
    · omega
  have HOK : Hid (∀ k, k ≤ rpre l → k < M → okA l k → k < (Pairs l).length) := Lib.hid fun k hk h h9 => by
    obtain ⟨q1, q2, q3, q4⟩ := HRP.out
    rw [HPL.out]
    have := HM.out
    have := HMM.out
    rcases Nat.lt_or_ge k (rpre l) with h5 | h5
    · exact h5
    · have h6 : k = rpre l := by omega
      rw [h6] at h9
      exact absurd h9 (q4 (by omega) (by omega))
  clear hY cr hm' h2 hJ hM
  refine callsIn_of_wp Tryz.func65 rfl trivial ?_ rfl
  simp only [Tryz.ntmps65, List.size_toArray, List.length_cons, List.length_nil, Nat.reduceAdd, Nat.reduceSub, Array.replicate_succ, Array.replicate_zero, List.push_toArray, List.append_toArray, List.nil_append, List.cons_append]
  gi_wp2
  gi_loopw [13] (fun i wr => ∃ k : Nat, i = .int .i64 k ∧ k ≤ M ∧ k ≤ rpre l ∧ J (up (Pairs l).length k) wr ∧ Ents wr S a l ∧ wr.cell? ⟨B1, 0, none⟩ = some (.slice a m ca) ∧ W.heap.size ≤ wr.heap.size) (fun i _ => M - (intOf i).toNat)
  case atStart => exact ⟨0, rfl, Nat.zero_le _, Nat.zero_le _, h0, HCR.out, b1, Nat.le_refl _⟩
  case round =>
    clear h0 b1
    obtain ⟨k, rfl, hk, hkr, hj, hp, b1, hsz⟩ := hrel
    have HJK := Lib.hid hj
    have HP := Lib.hid hp
    have HSZ := Lib.hid hsz
    by_cases hlt : k < M
    · obtain ⟨b, o, hb, rfl, hx⟩ := hp (by rw [← HM.out]; omega)
      have hxk := hx k (by rw [← HM.out]; omega)
      obtain ⟨x, hxe⟩ : ∃ x, l.getD k ent0 = x := ⟨_, rfl⟩
      rw [hxe] at hxk
      obtain ⟨c0, c1, c2, c3⟩ := hxk
      have HX := Lib.hid hxe
      have HXA := Lib.hid hx
      clear hj hp hsz hxe hx
      obtain ⟨W2, hW2⟩ : ∃ W2, wr.alloc (.cells #[.string x.u, .int .i64 x.q, .int .i64 x.k, .string x.val] 49) = W2 := ⟨_, rfl⟩
      have f2 : Fr No wr W2 := by rw [← hW2]; exact (Fr.refl No wr).alloc _
      have a2 : At W2 wr.heap.size 49 #[.string x.u, .int .i64 x.q, .int .i64 x.k, .string x.val] := by rw [← hW2]; exact At.new _ _ _
      have q0 := a2.cell 0
      have q1 := a2.cell 1
      have q2 := a2.cell 2
      simp at q0 q1 q2
      rw [← hW2] at q0 q1 q2
      have HF2 := Lib.hid f2
      have HA2 := Lib.hid a2
      have HW2 := Lib.hid hW2
      have B1F := Lib.hid b1
      by_cases hrt : RtE x
      · have CB := Lib.hid (bytes_yes x.u x.q x.k W2 hrt)
        have HKB : Hid (encK x.u.data.toList x.q x.k = keyB x) := Lib.hid rfl
        rw [HKB.out] at CB
        have HRT := Lib.hid hrt
        have HKL : Hid ((keyB x).length ≤ 137) := Lib.hid (keyB_len x hrt)
        clear f2 a2 hW2 hrt
        refine wpIn_wide.2 ?_
        go_wp2_with fail
        rw [HW2.out]
        refine (show Calls _ _ _ _ _ from CB.out).mono ?_
        rintro e3 W3 ⟨ka, kc, rfl, kr, f3⟩
        obtain ⟨_, _, e9, _, _, ki⟩ := kr.form
        obtain ⟨rfl, _, rfl⟩ := Value.slice.inj e9
        have HKI := Lib.hid ki
        have HF3 := Lib.hid (HF2.out.trans f3)
        have HA3 := Lib.hid (HA2.out.keep f3 (fun h => h))
        have B3 := HF3.out.cell B1F.out (fun h => h)
        clear kr ki f3 e9 CB q0 q1 q2
        by_cases hk0 : 0 < k
        · obtain ⟨p, hp⟩ : ∃ p, p + 1 = k := ⟨k - 1, by omega⟩
          have hxp := HXA.out p (by rw [← HM.out]; omega)
          obtain ⟨x', hx'⟩ : ∃ x', l.getD p ent0 = x' := ⟨_, rfl⟩
          rw [hx'] at hxp
          obtain ⟨g0, g1, g2, _⟩ := hxp
          have g0 := HF3.out.cell g0 (fun h => h)
          have g1 := HF3.out.cell g1 (fun h => h)
          have g2 := HF3.out.cell g2 (fun h => h)
          have r0 := HA3.out.cell 0
          have r1 := HA3.out.cell 1
          have r2 := HA3.out.cell 2
          simp at r0 r1 r2
          have hm1 : (k : Int) - 1 = (p : Int) := by omega
          have hm0 : (0 : Int) ≤ (p : Int) := by omega
          have hml : (p : Int) < (m : Int) := by omega
          have hwr : IntKind.i64.wrap ((k : Int) - 1) = (p : Int) := by rw [hm1]; exact IntWalk.i64_in _ (by omega)
          have hwm : IntKind.i64.wrap (p : Int) = (p : Int) := IntWalk.i64_in _ (by omega)
          have dk : decide ((k : Int) > 0) = true := by rw [decide_eq_true_eq]; omega
          have HCMP := Lib.hid (fun w => cmp_c x'.u x.u x'.q x'.k x.q x.k w)
          have HCE : Hid (cmpK x'.u.data.toList x'.q x'.k x.u.data.toList x.q x.k = cmpE x' x) := Lib.hid rfl
          rw [HCE.out] at HCMP
          have HOKA : Hid (okA l k ↔ cmpE x' x < 0) := Lib.hid (by
            unfold okA
            rw [HX.out, show k - 1 = p by omega, hx']
            exact ⟨fun h => h.2 (by omega), fun h => ⟨HRT.out, fun _ => h⟩⟩)
          generalize cmpE x' x = c at HCMP HOKA
          clear hx'
          go_wp2_with fail
          refine wp_region_held_drew (S := (fun w' => w'.cell? ⟨B1, 0, none⟩ = some (.slice (some ⟨b, o, none⟩) m ca) ∧ w'.cell? ⟨b, o + p * 4, none⟩ = some (.string x'.u) ∧ w'.cell? ⟨b, o + p * 4 + 1, none⟩ = some (.int .i64 x'.q) ∧ w'.cell? ⟨b, o + p * 4 + 2, none⟩ = some (.int .i64 x'.k) ∧ w'.cell? ⟨wr.heap.size, 0, none⟩ = some (.string x.u) ∧ w'.cell? ⟨wr.heap.size, 1, none⟩ = some (.int .i64 x.q) ∧ w'.cell? ⟨wr.heap.size, 2, none⟩ = some (.int .i64 x.k))) (by kernel_rfl) ⟨(Fr.refl No _).drew.cell B3 (fun h => h), (Fr.refl No _).drew.cell g0 (fun h => h), (Fr.refl No _).drew.cell g1 (fun h => h), (Fr.refl No _).drew.cell g2 (fun h => h), (Fr.refl No _).drew.cell r0 (fun h => h), (Fr.refl No _).drew.cell r1 (fun h => h), (Fr.refl No _).drew.cell r2 (fun h => h)⟩ (fun hHeld => ?_)
          refine take_drop (i := 0) (v := ?v0_1) rfl (by kernel_rfl) (by kernel_rfl) (by kernel_rfl) (fun _ _ _ h => h) (Or.inl ⟨by rfl, ?h0_1⟩) hHeld ?r0_1
          case h0_1 => (intro wS hSw; obtain ⟨s1, s2, s3, s4, s5, s6, s7⟩ := hSw; go_simp; all_goals (with_reducible rfl))
          simp only [Act.put, List.setIfInBounds_toArray, List.set_cons_zero, List.set_cons_succ]
          refine take_drop (i := 1) (v := ?v1_1) rfl (by kernel_rfl) (by kernel_rfl) (by kernel_rfl) (fun _ _ _ h => h) (Or.inl ⟨by rfl, ?h1_1⟩) hHeld ?r1_1
          case h1_1 => (intro wS hSw; obtain ⟨s1, s2, s3, s4, s5, s6, s7⟩ := hSw; go_simp; all_goals (with_reducible rfl))
          simp only [Act.put, List.setIfInBounds_toArray, List.set_cons_zero, List.set_cons_succ]
          refine take_drop (i := 2) (v := ?v2_1) rfl (by kernel_rfl) (by kernel_rfl) (by kernel_rfl) (fun _ _ _ h => h) (Or.inl ⟨by rfl, ?h2_1⟩) hHeld ?r2_1
          case h2_1 => (intro wS hSw; obtain ⟨s1, s2, s3, s4, s5, s6, s7⟩ := hSw; go_simp; all_goals (with_reducible rfl))
          simp only [Act.put, List.setIfInBounds_toArray, List.set_cons_zero, List.set_cons_succ]
          refine take_drop (i := 3) (v := ?v3_1) rfl (by kernel_rfl) (by kernel_rfl) (by kernel_rfl) (fun _ _ _ h => h) (Or.inl ⟨by rfl, ?h3_1⟩) hHeld ?r3_1
          case h3_1 => (intro wS hSw; obtain ⟨s1, s2, s3, s4, s5, s6, s7⟩ := hSw; go_simp; all_goals (with_reducible rfl))
          simp only [Act.put, List.setIfInBounds_toArray, List.set_cons_zero, List.set_cons_succ]
          refine take_drop (i := 4) (v := ?v4_1) rfl (by kernel_rfl) (by kernel_rfl) (by kernel_rfl) (fun _ _ _ h => h) (Or.inl ⟨by rfl, ?h4_1⟩) hHeld ?r4_1
          case h4_1 => (intro wS hSw; obtain ⟨s1, s2, s3, s4, s5, s6, s7⟩ := hSw; go_simp; all_goals (with_reducible rfl))
          simp only [Act.put, List.setIfInBounds_toArray, List.set_cons_zero, List.set_cons_succ]
          refine take_drop (i := 5) (v := ?v5_1) rfl (by kernel_rfl) (by kernel_rfl) (by kernel_rfl) (fun _ _ _ h => h) (Or.inl ⟨by rfl, ?h5_1⟩) hHeld ?r5_1
          case h5_1 => (intro wS hSw; obtain ⟨s1, s2, s3, s4, s5, s6, s7⟩ := hSw; go_simp; all_goals (with_reducible rfl))
          simp only [Act.put, List.setIfInBounds_toArray, List.set_cons_zero, List.set_cons_succ]
          refine take_drop (i := 6) (v := ?v6_1) rfl (by kernel_rfl) (by kernel_rfl) (by kernel_rfl) (fun _ _ _ h => h) (Or.inl ⟨by rfl, ?h6_1⟩) hHeld ?r6_1
          case h6_1 => (intro wS hSw; obtain ⟨s1, s2, s3, s4, s5, s6, s7⟩ := hSw; go_simp; all_goals (with_reducible rfl))
          simp only [Act.put, List.setIfInBounds_toArray, List.set_cons_zero, List.set_cons_succ]
          refine take_drop (i := 7) (v := ?v7_1) rfl (by kernel_rfl) (by kernel_rfl) (by kernel_rfl) (fun _ _ _ h => h) (Or.inl ⟨by rfl, ?h7_1⟩) hHeld ?r7_1
          case h7_1 => (intro wS hSw; obtain ⟨s1, s2, s3, s4, s5, s6, s7⟩ := hSw; go_simp; all_goals (with_reducible rfl))
          simp only [Act.put, List.setIfInBounds_toArray, List.set_cons_zero, List.set_cons_succ]
          refine take_drop (i := 8) (v := ?v8_1) rfl (by kernel_rfl) (by kernel_rfl) (by kernel_rfl) (fun _ _ _ h => h) (Or.inl ⟨by rfl, ?h8_1⟩) hHeld ?r8_1
          case h8_1 => (intro wS hSw; obtain ⟨s1, s2, s3, s4, s5, s6, s7⟩ := hSw; go_simp; all_goals (with_reducible rfl))
          simp only [Act.put, List.setIfInBounds_toArray, List.set_cons_zero, List.set_cons_succ]
          refine take_drop (i := 9) (v := ?v9_1) rfl (by kernel_rfl) (by kernel_rfl) (by kernel_rfl) (fun _ _ _ h => h) (Or.inl ⟨by rfl, ?h9_1⟩) hHeld ?r9_1
          case h9_1 => (intro wS hSw; obtain ⟨s1, s2, s3, s4, s5, s6, s7⟩ := hSw; go_simp; all_goals (with_reducible rfl))
          simp only [Act.put, List.setIfInBounds_toArray, List.set_cons_zero, List.set_cons_succ]
          refine take_drop (i := 10) (v := ?v10_1) rfl (by kernel_rfl) (by kernel_rfl) (by kernel_rfl) (fun _ _ _ h => h) (Or.inl ⟨by rfl, ?h10_1⟩) hHeld ?r10_1
          case h10_1 => (intro wS hSw; obtain ⟨s1, s2, s3, s4, s5, s6, s7⟩ := hSw; go_simp; all_goals (with_reducible rfl))
          simp only [Act.put, List.setIfInBounds_toArray, List.set_cons_zero, List.set_cons_succ]
          refine take_drop (i := 11) (v := ?v11_1) rfl (by kernel_rfl) (by kernel_rfl) (by kernel_rfl) (fun _ _ _ h => h) (Or.inl ⟨by rfl, ?h11_1⟩) hHeld ?r11_1
          case h11_1 => (intro wS hSw; obtain ⟨s1, s2, s3, s4, s5, s6, s7⟩ := hSw; go_simp; all_goals (with_reducible rfl))
          simp only [Act.put, List.setIfInBounds_toArray, List.set_cons_zero, List.set_cons_succ]
          refine take_drop (i := 12) (v := ?v12_1) rfl (by kernel_rfl) (by kernel_rfl) (by kernel_rfl) (fun _ _ _ h => h) (Or.inl ⟨by rfl, ?h12_1⟩) hHeld ?r12_1
          case h12_1 => (intro wS hSw; obtain ⟨s1, s2, s3, s4, s5, s6, s7⟩ := hSw; go_simp; all_goals (with_reducible rfl))
          simp only [Act.put, List.setIfInBounds_toArray, List.set_cons_zero, List.set_cons_succ]
          refine take_drop (i := 13) (v := ?v13_1) rfl (by kernel_rfl) (by kernel_rfl) (by kernel_rfl) (fun _ _ _ h => h) (Or.inl ⟨by rfl, ?h13_1⟩) hHeld ?r13_1
          case h13_1 => (intro wS hSw; obtain ⟨s1, s2, s3, s4, s5, s6, s7⟩ := hSw; go_simp; all_goals (with_reducible rfl))
          simp only [Act.put, List.setIfInBounds_toArray, List.set_cons_zero, List.set_cons_succ]
          obtain ⟨W4, hW4⟩ : ∃ W4, W3.drew = W4 := ⟨_, rfl⟩
          rw [hW4] at hHeld ⊢
          have f4 : Fr No W3 W4 := by rw [← hW4]; exact (Fr.refl No W3).drew
          clear hW4
          refine wpAnyH_ready (rs := [14]) (by kernel_rfl) (by simp) ?_
          refine do_drop (i := 14) rfl (fun K hK => ?_) AllReadyH.nil
          go_simp
          refine (HCMP.out W4).mono ?_
          rintro e5 W5 ⟨rfl, f5⟩
          have hH5 : _ ∧ _ ∧ _ ∧ _ ∧ _ ∧ _ ∧ _ := ⟨f5.cell hHeld.1 (fun h => h), f5.cell hHeld.2.1 (fun h => h), f5.cell hHeld.2.2.1 (fun h => h), f5.cell hHeld.2.2.2.1 (fun h => h), f5.cell hHeld.2.2.2.2.1 (fun h => h), f5.cell hHeld.2.2.2.2.2.1 (fun h => h), f5.cell hHeld.2.2.2.2.2.2 (fun h => h)⟩
          have HF5 := Lib.hid (HF3.out.trans (f4.trans f5))
          have HF45 := Lib.hid (f4.trans f5)
          refine hK.out _ _ hH5 ?_
          clear hK K f4 f5 hHeld
          try simp only [Act.put, List.setIfInBounds_toArray, List.set_cons_zero, List.set_cons_succ]
          have hHeld := hH5
          by_cases hc : c < 0
          · have dc : decide (c ≥ 0) = false := decide_eq_false (by omega)
            refine take_drop (i := 15) (v := ?v15_1) rfl (by kernel_rfl) (by kernel_rfl) (by kernel_rfl) (fun _ _ _ h => h) (Or.inl ⟨by rfl, ?h15_1⟩) hHeld ?r15_1
            case h15_1 => (intro wS hSw; obtain ⟨s1, s2, s3, s4, s5, s6, s7⟩ := hSw; go_simp; all_goals (with_reducible rfl))
            simp only [Act.put, List.setIfInBounds_toArray, List.set_cons_zero, List.set_cons_succ]
            refine take_drop (i := 16) (v := ?v16_1) rfl (by kernel_rfl) (by kernel_rfl) (by kernel_rfl) (fun _ _ _ h => h) (Or.inl ⟨by rfl, ?h16_1⟩) hHeld ?r16_1
            case h16_1 => (intro wS hSw; obtain ⟨s1, s2, s3, s4, s5, s6, s7⟩ := hSw; go_simp; all_goals (with_reducible rfl))
            simp only [Act.put, List.setIfInBounds_toArray, List.set_cons_zero, List.set_cons_succ]
            refine take_drop (i := 17) (v := ?v17_1) rfl (by kernel_rfl) (by kernel_rfl) (by kernel_rfl) (fun _ _ _ h => h) (Or.inl ⟨by rfl, ?h17_1⟩) hHeld ?r17_1
            case h17_1 => (intro wS hSw; obtain ⟨s1, s2, s3, s4, s5, s6, s7⟩ := hSw; go_simp; all_goals (with_reducible rfl))
            simp only [Act.put, List.setIfInBounds_toArray, List.set_cons_zero, List.set_cons_succ]
            refine wpAnyH_done (by kernel_rfl) ?_ _
            rename_i hKK
            clear hHeld
            obtain ⟨WY, hWY⟩ : ∃ WY, W5 = WY := ⟨_, rfl⟩
            rw [hWY] at HF5 HF45 ⊢
            have HFY := Lib.hid (HF5.out)
            have HAY := Lib.hid (HA3.out.keep HF45.out (fun h => h))
            have HKIY := Lib.hid ((HKI.out.keep HF45.out (fun _ _ h => h)).rd)
            have hkl : k < (Pairs l).length := HOK.out k hkr hlt (HOKA.out.2 hc)
            have HKL2 := Lib.hid hkl
            have hcv := conv_rd WY ka (keyB x).length kc (keyB x) rfl HKIY.out
            obtain ⟨kn, hkn⟩ : ∃ kn, (keyB x).length = kn := ⟨_, rfl⟩
            rw [hkn] at hcv ⊢
            have v0 := HAY.out.cell 3
            simp at v0
            have hpe : prE x = ⟨strOf (keyB x), x.val⟩ := rfl
            have HPE := Lib.hid hpe
            generalize strOf (keyB x) = ks at hcv HPE
            have hy0 := HY.out (up (Pairs l).length k) ⟨k, hkl⟩ WY (abides_fr HJ.out HJK.out HFY.out) (by rw [HBL.out _ (by omega)]; exact hkl)
            rw [show (Pairs l).getD (⟨k, hkl⟩ : Plc (Pairs l).length).val pr0 = ⟨ks, x.val⟩ from (HPG.out k (by rw [← HPL.out]; exact hkl)).trans (by rw [HX.out]; exact HPE.out)] at hy0
            have HST := Lib.hid (HB.out k hkl)
            obtain ⟨fn, tmps, assign, body, hy, hR⟩ := hy0
            have hy : (Instr.yield y #[.agg #[.string ks, .string x.val]]).run Tryz.prog WY = .ok (.round y fn tmps assign body) WY := hy
            have HP2 := Lib.hid (HP.out.keep HFY.out (fun _ _ h => h))
            have BY := Lib.hid (HFY.out.cell B1F.out (fun h => h))
            have HS2 := Lib.hid (Nat.le_trans HSZ.out HFY.out.size)
            clear hpe hkn
            refine hKK _ _ ((wpIn_wide (n := n)).1 ?_)
            clear hKK
            gi_wp2
            refine (wpIn_wide (n := n)).1 ?_
            gi_wp2
            refine hR.mono ?_
            rintro e W6 (⟨rfl, hJ6, hk6⟩ | ⟨rfl, hJx6⟩)
            · have HJ6 := Lib.hid hJ6
              have HK6 := Lib.hid hk6
              clear hJ6 hk6 hR hy hcv v0
              gi_wp2
              go_wp2_with fail
              go_roundw
              case rel =>
                refine ⟨k + 1, (by simp <;> omega), by omega, by rw [← HPL.out]; exact HKL2.out, by rw [HST.out]; exact HJ6.out, ?_, HK6.out.cell BY.out h3, Nat.le_trans HS2.out HK6.out.size⟩
                intro hl
                obtain ⟨b', o', hb', ha', hc'⟩ := HP2.out hl
                exact ⟨b', o', hb', ha', fun i hi => ⟨HK6.out.cell (hc' i hi).c0 (HS.out _ hb'), HK6.out.cell (hc' i hi).c1 (HS.out _ hb'), HK6.out.cell (hc' i hi).c2 (HS.out _ hb'), HK6.out.cell (hc' i hi).c3 (HS.out _ hb')⟩⟩
              case measure => simp [intOf]; omega
            · have HJ6 := Lib.hid hJx6
              clear hJx6 hR hy hcv v0
              gi_wp2
              refine bodyPost_ret (results_none rfl _ _ _) rfl ?_
              refine ⟨⟨_, rfl⟩, .inr ⟨_, ?_, HJ6.out⟩⟩
              rw [← HST.out]
              have := up_prefix (Pairs l).length (k + 1) ((Pairs l).length - (k + 1))
              rw [show k + 1 + ((Pairs l).length - (k + 1)) = (Pairs l).length by have := HKL2.out; omega] at this
              exact this
          · have dc : decide (c ≥ 0) = true := decide_eq_true (by omega)
            refine take_drop (i := 15) (v := ?v15_2) rfl (by kernel_rfl) (by kernel_rfl) (by kernel_rfl) (fun _ _ _ h => h) (Or.inl ⟨by rfl, ?h15_2⟩) hHeld ?r15_2
            case h15_2 => (intro wS hSw; obtain ⟨s1, s2, s3, s4, s5, s6, s7⟩ := hSw; go_simp; all_goals (with_reducible rfl))
            simp only [Act.put, List.setIfInBounds_toArray, List.set_cons_zero, List.set_cons_succ]
            refine take_drop (i := 16) (v := ?v16_3) rfl (by kernel_rfl) (by kernel_rfl) (by kernel_rfl) (fun _ _ _ h => h) (Or.inl ⟨by rfl, ?h16_3⟩) hHeld ?r16_3
            case h16_3 => (intro wS hSw; obtain ⟨s1, s2, s3, s4, s5, s6, s7⟩ := hSw; go_simp; all_goals (with_reducible rfl))
            simp only [Act.put, List.setIfInBounds_toArray, List.set_cons_zero, List.set_cons_succ]
            refine take_drop (i := 17) (v := ?v17_4) rfl (by kernel_rfl) (by kernel_rfl) (by kernel_rfl) (fun _ _ _ h => h) (Or.inl ⟨by rfl, ?h17_4⟩) hHeld ?r17_4
            case h17_4 => (intro wS hSw; obtain ⟨s1, s2, s3, s4, s5, s6, s7⟩ := hSw; go_simp; all_goals (with_reducible rfl))
            simp only [Act.put, List.setIfInBounds_toArray, List.set_cons_zero, List.set_cons_succ]
            refine wpAnyH_done (by kernel_rfl) ?_ _
            rename_i hKK
            try clear hHeld
            have hke : k = (Pairs l).length := HEND.out k hkr (.inr (fun h => hc (HOKA.out.1 h)))
            have HKE := Lib.hid hke
            have HJE := Lib.hid (abides_fr HJ.out HJK.out HF5.out)
            clear hke
            refine hKK _ _ ((wpIn_wide (n := n)).1 ?_)
            clear hKK
            gi_wp2
            refine bodyPost_ret (results_none rfl _ _ _) rfl ?_
            have h9 := HJE.out
            rw [HKE.out] at h9
            first
              | exact ⟨⟨_, rfl⟩, .inl ⟨_, rfl, h9⟩⟩
              | exact ⟨⟨_, rfl⟩, .inl h9⟩
        · have hk1 : k = 0 := by omega
          have dk : decide ((k : Int) > 0) = false := by rw [decide_eq_false_iff_not]; omega
          have HOKA : Hid (okA l k) := Lib.hid (by
            unfold okA
            rw [HX.out]
            exact ⟨HRT.out, fun h => by omega⟩)
          have r3 := HA3.out.cell 3
          go_wp2_with fail
          refine wp_region_held_drew (S := (fun w' => w'.cell? ⟨B1, 0, none⟩ = some (.slice (some ⟨b, o, none⟩) m ca))) (by kernel_rfl) ((Fr.refl No _).drew.cell B3 (fun h => h)) (fun hHeld => ?_)
          refine take_drop (i := 0) (v := ?v0_5) rfl (by kernel_rfl) (by kernel_rfl) (by kernel_rfl) (fun _ _ _ h => h) (Or.inl ⟨by rfl, ?h0_5⟩) hHeld ?r0_5
          case h0_5 => (intro wS hSw; go_simp; all_goals (with_reducible rfl))
          simp only [Act.put, List.setIfInBounds_toArray, List.set_cons_zero, List.set_cons_succ]
          refine take_drop (i := 1) (v := ?v1_5) rfl (by kernel_rfl) (by kernel_rfl) (by kernel_rfl) (fun _ _ _ h => h) (Or.inl ⟨by rfl, ?h1_5⟩) hHeld ?r1_5
          case h1_5 => (intro wS hSw; go_simp; all_goals (with_reducible rfl))
          simp only [Act.put, List.setIfInBounds_toArray, List.set_cons_zero, List.set_cons_succ]
          refine take_drop (i := 2) (v := ?v2_5) rfl (by kernel_rfl) (by kernel_rfl) (by kernel_rfl) (fun _ _ _ h => h) (Or.inl ⟨by rfl, ?h2_5⟩) hHeld ?r2_5
          case h2_5 => (intro wS hSw; go_simp; all_goals (with_reducible rfl))
          simp only [Act.put, List.setIfInBounds_toArray, List.set_cons_zero, List.set_cons_succ]
          refine take_drop (i := 3) (v := ?v3_5) rfl (by kernel_rfl) (by kernel_rfl) (by kernel_rfl) (fun _ _ _ h => h) (Or.inl ⟨by rfl, ?h3_5⟩) hHeld ?r3_5
          case h3_5 => (intro wS hSw; go_simp; all_goals (with_reducible rfl))
          simp only [Act.put, List.setIfInBounds_toArray, List.set_cons_zero, List.set_cons_succ]
          refine take_drop (i := 4) (v := ?v4_5) rfl (by kernel_rfl) (by kernel_rfl) (by kernel_rfl) (fun _ _ _ h => h) (Or.inl ⟨by rfl, ?h4_5⟩) hHeld ?r4_5
          case h4_5 => (intro wS hSw; go_simp; all_goals (with_reducible rfl))
          simp only [Act.put, List.setIfInBounds_toArray, List.set_cons_zero, List.set_cons_succ]
          refine take_drop (i := 5) (v := ?v5_5) rfl (by kernel_rfl) (by kernel_rfl) (by kernel_rfl) (fun _ _ _ h => h) (Or.inl ⟨by rfl, ?h5_5⟩) hHeld ?r5_5
          case h5_5 => (intro wS hSw; go_simp; all_goals (with_reducible rfl))
          simp only [Act.put, List.setIfInBounds_toArray, List.set_cons_zero, List.set_cons_succ]
          refine take_drop (i := 6) (v := undef) rfl (by kernel_rfl) (by kernel_rfl) (by kernel_rfl) (fun _ _ _ h => h) (Or.inr ⟨by rfl, rfl⟩) hHeld ?_
          simp only [Act.put, List.setIfInBounds_toArray, List.set_cons_zero, List.set_cons_succ]
          refine take_drop (i := 7) (v := undef) rfl (by kernel_rfl) (by kernel_rfl) (by kernel_rfl) (fun _ _ _ h => h) (Or.inr ⟨by rfl, rfl⟩) hHeld ?_
          simp only [Act.put, List.setIfInBounds_toArray, List.set_cons_zero, List.set_cons_succ]
          refine take_drop (i := 8) (v := undef) rfl (by kernel_rfl) (by kernel_rfl) (by kernel_rfl) (fun _ _ _ h => h) (Or.inr ⟨by rfl, rfl⟩) hHeld ?_
          simp only [Act.put, List.setIfInBounds_toArray, List.set_cons_zero, List.set_cons_succ]
          refine take_drop (i := 9) (v := undef) rfl (by kernel_rfl) (by kernel_rfl) (by kernel_rfl) (fun _ _ _ h => h) (Or.inr ⟨by rfl, rfl⟩) hHeld ?_
          simp only [Act.put, List.setIfInBounds_toArray, List.set_cons_zero, List.set_cons_succ]
          refine take_drop (i := 10) (v := undef) rfl (by kernel_rfl) (by kernel_rfl) (by kernel_rfl) (fun _ _ _ h => h) (Or.inr ⟨by rfl, rfl⟩) hHeld ?_
          simp only [Act.put, List.setIfInBounds_toArray, List.set_cons_zero, List.set_cons_succ]
          refine take_drop (i := 11) (v := undef) rfl (by kernel_rfl) (by kernel_rfl) (by kernel_rfl) (fun _ _ _ h => h) (Or.inr ⟨by rfl, rfl⟩) hHeld ?_
          simp only [Act.put, List.setIfInBounds_toArray, List.set_cons_zero, List.set_cons_succ]
          refine take_drop (i := 12) (v := undef) rfl (by kernel_rfl) (by kernel_rfl) (by kernel_rfl) (fun _ _ _ h => h) (Or.inr ⟨by rfl, rfl⟩) hHeld ?_
          simp only [Act.put, List.setIfInBounds_toArray, List.set_cons_zero, List.set_cons_succ]
          refine take_drop (i := 13) (v := undef) rfl (by kernel_rfl) (by kernel_rfl) (by kernel_rfl) (fun _ _ _ h => h) (Or.inr ⟨by rfl, rfl⟩) hHeld ?_
          simp only [Act.put, List.setIfInBounds_toArray, List.set_cons_zero, List.set_cons_succ]
          refine take_drop (i := 14) (v := undef) rfl (by kernel_rfl) (by kernel_rfl) (by kernel_rfl) (fun _ _ _ h => h) (Or.inr ⟨by rfl, rfl⟩) hHeld ?_
          simp only [Act.put, List.setIfInBounds_toArray, List.set_cons_zero, List.set_cons_succ]
          refine take_drop (i := 15) (v := undef) rfl (by kernel_rfl) (by kernel_rfl) (by kernel_rfl) (fun _ _ _ h => h) (Or.inr ⟨by rfl, rfl⟩) hHeld ?_
          simp only [Act.put, List.setIfInBounds_toArray, List.set_cons_zero, List.set_cons_succ]
          refine take_drop (i := 16) (v := ?v16_5) rfl (by kernel_rfl) (by kernel_rfl) (by kernel_rfl) (fun _ _ _ h => h) (Or.inl ⟨by rfl, ?h16_5⟩) hHeld ?r16_5
          case h16_5 => (intro wS hSw; go_simp; all_goals (with_reducible rfl))
          simp only [Act.put, List.setIfInBounds_toArray, List.set_cons_zero, List.set_cons_succ]
          refine take_drop (i := 17) (v := ?v17_5) rfl (by kernel_rfl) (by kernel_rfl) (by kernel_rfl) (fun _ _ _ h => h) (Or.inl ⟨by rfl, ?h17_5⟩) hHeld ?r17_5
          case h17_5 => (intro wS hSw; go_simp; all_goals (with_reducible rfl))
          simp only [Act.put, List.setIfInBounds_toArray, List.set_cons_zero, List.set_cons_succ]
          refine wpAnyH_done (by kernel_rfl) ?_ _
          rename_i hKK
          have HF4 := Lib.hid (HF3.out.drew)
          have HF34 : Hid (Fr No W3 W3.drew) := Lib.hid (Fr.refl No W3).drew
          clear hHeld
          obtain ⟨WY, hWY⟩ : ∃ WY, W3.drew = WY := ⟨_, rfl⟩
          rw [hWY] at HF4 HF34 ⊢
          have HFY := Lib.hid (HF4.out)
          have HAY := Lib.hid (HA3.out.keep HF34.out (fun h => h))
          have HKIY := Lib.hid ((HKI.out.keep HF34.out (fun _ _ h => h)).rd)
          have hkl : k < (Pairs l).length := HOK.out k hkr hlt HOKA.out
          have HKL2 := Lib.hid hkl
          have hcv := conv_rd WY ka (keyB x).length kc (keyB x) rfl HKIY.out
          obtain ⟨kn, hkn⟩ : ∃ kn, (keyB x).length = kn := ⟨_, rfl⟩
          rw [hkn] at hcv ⊢
          have v0 := HAY.out.cell 3
          simp at v0
          have hpe : prE x = ⟨strOf (keyB x), x.val⟩ := rfl
          have HPE := Lib.hid hpe
          generalize strOf (keyB x) = ks at hcv HPE
          have hy0 := HY.out (up (Pairs l).length k) ⟨k, hkl⟩ WY (abides_fr HJ.out HJK.out HFY.out) (by rw [HBL.out _ (by omega)]; exact hkl)
          rw [show (Pairs l).getD (⟨k, hkl⟩ : Plc (Pairs l).length).val pr0 = ⟨ks, x.val⟩ from (HPG.out k (by rw [← HPL.out]; exact hkl)).trans (by rw [HX.out]; exact HPE.out)] at hy0
          have HST := Lib.hid (HB.out k hkl)
          obtain ⟨fn, tmps, assign, body, hy, hR⟩ := hy0
          have hy : (Instr.yield y #[.agg #[.string ks, .string x.val]]).run Tryz.prog WY = .ok (.round y fn tmps assign body) WY := hy
          have HP2 := Lib.hid (HP.out.keep HFY.out (fun _ _ h => h))
          have BY := Lib.hid (HFY.out.cell B1F.out (fun h => h))
          have HS2 := Lib.hid (Nat.le_trans HSZ.out HFY.out.size)
          clear hpe hkn
          refine hKK _ _ ((wpIn_wide (n := n)).1 ?_)
          clear hKK
          gi_wp2
          refine (wpIn_wide (n := n)).1 ?_
          gi_wp2
          refine hR.mono ?_
          rintro e W6 (⟨rfl, hJ6, hk6⟩ | ⟨rfl, hJx6⟩)
          · have HJ6 := Lib.hid hJ6
            have HK6 := Lib.hid hk6
            clear hJ6 hk6 hR hy hcv v0
            gi_wp2
            go_wp2_with fail
            go_roundw
            case rel =>
              refine ⟨k + 1, (by simp <;> omega), by omega, by rw [← HPL.out]; exact HKL2.out, by rw [HST.out]; exact HJ6.out, ?_, HK6.out.cell BY.out h3, Nat.le_trans HS2.out HK6.out.size⟩
              intro hl
              obtain ⟨b', o', hb', ha', hc'⟩ := HP2.out hl
              exact ⟨b', o', hb', ha', fun i hi => ⟨HK6.out.cell (hc' i hi).c0 (HS.out _ hb'), HK6.out.cell (hc' i hi).c1 (HS.out _ hb'), HK6.out.cell (hc' i hi).c2 (HS.out _ hb'), HK6.out.cell (hc' i hi).c3 (HS.out _ hb')⟩⟩
            case measure => simp [intOf]; omega
          · have HJ6 := Lib.hid hJx6
            clear hJx6 hR hy hcv v0
            gi_wp2
            refine bodyPost_ret (results_none rfl _ _ _) rfl ?_
            refine ⟨⟨_, rfl⟩, .inr ⟨_, ?_, HJ6.out⟩⟩
            rw [← HST.out]
            have := up_prefix (Pairs l).length (k + 1) ((Pairs l).length - (k + 1))
            rw [show k + 1 + ((Pairs l).length - (k + 1)) = (Pairs l).length by have := HKL2.out; omega] at this
            exact this
      · have CB := Lib.hid (bytes_no x.u x.q x.k W2 hrt)
        have HOKA : Hid (¬ okA l k) := Lib.hid (by
          unfold okA
          rw [HX.out]
          exact fun h => hrt h.1)
        clear f2 a2 hW2 hrt
        refine wpIn_wide.2 ?_
        go_wp2_with fail
        rw [HW2.out]
        refine (show Calls _ _ _ _ _ from CB.out).mono ?_
        rintro e3 W3 ⟨rfl, f3⟩
        have HF3 := Lib.hid (HF2.out.trans f3)
        have B3 := HF3.out.cell B1F.out (fun h => h)
        clear f3 CB q0 q1 q2
        go_wp2_with fail
        refine wp_region_held_drew (S := (fun w' => w'.cell? ⟨B1, 0, none⟩ = some (.slice (some ⟨b, o, none⟩) m ca))) (by kernel_rfl) ((Fr.refl No _).drew.cell B3 (fun h => h)) (fun hHeld => ?_)
        refine take_drop (i := 0) (v := ?v0_6) rfl (by kernel_rfl) (by kernel_rfl) (by kernel_rfl) (fun _ _ _ h => h) (Or.inl ⟨by rfl, ?h0_6⟩) hHeld ?r0_6
        case h0_6 => (intro wS hSw; go_simp; all_goals (with_reducible rfl))
        simp only [Act.put, List.setIfInBounds_toArray, List.set_cons_zero, List.set_cons_succ]
        refine take_drop (i := 1) (v := ?v1_6) rfl (by kernel_rfl) (by kernel_rfl) (by kernel_rfl) (fun _ _ _ h => h) (Or.inl ⟨by rfl, ?h1_6⟩) hHeld ?r1_6
        case h1_6 => (intro wS hSw; go_simp; all_goals (with_reducible rfl))
        simp only [Act.put, List.setIfInBounds_toArray, List.set_cons_zero, List.set_cons_succ]
        refine take_drop (i := 2) (v := ?v2_6) rfl (by kernel_rfl) (by kernel_rfl) (by kernel_rfl) (fun _ _ _ h => h) (Or.inl ⟨by rfl, ?h2_6⟩) hHeld ?r2_6
        case h2_6 => (intro wS hSw; go_simp; all_goals (with_reducible rfl))
        simp only [Act.put, List.setIfInBounds_toArray, List.set_cons_zero, List.set_cons_succ]
        refine take_drop (i := 3) (v := undef) rfl (by kernel_rfl) (by kernel_rfl) (by kernel_rfl) (fun _ _ _ h => h) (Or.inr ⟨by rfl, rfl⟩) hHeld ?_
        simp only [Act.put, List.setIfInBounds_toArray, List.set_cons_zero, List.set_cons_succ]
        refine take_drop (i := 4) (v := undef) rfl (by kernel_rfl) (by kernel_rfl) (by kernel_rfl) (fun _ _ _ h => h) (Or.inr ⟨by rfl, rfl⟩) hHeld ?_
        simp only [Act.put, List.setIfInBounds_toArray, List.set_cons_zero, List.set_cons_succ]
        refine take_drop (i := 5) (v := undef) rfl (by kernel_rfl) (by kernel_rfl) (by kernel_rfl) (fun _ _ _ h => h) (Or.inr ⟨by rfl, rfl⟩) hHeld ?_
        simp only [Act.put, List.setIfInBounds_toArray, List.set_cons_zero, List.set_cons_succ]
        refine take_drop (i := 6) (v := undef) rfl (by kernel_rfl) (by kernel_rfl) (by kernel_rfl) (fun _ _ _ h => h) (Or.inr ⟨by rfl, rfl⟩) hHeld ?_
        simp only [Act.put, List.setIfInBounds_toArray, List.set_cons_zero, List.set_cons_succ]
        refine take_drop (i := 7) (v := undef) rfl (by kernel_rfl) (by kernel_rfl) (by kernel_rfl) (fun _ _ _ h => h) (Or.inr ⟨by rfl, rfl⟩) hHeld ?_
        simp only [Act.put, List.setIfInBounds_toArray, List.set_cons_zero, List.set_cons_succ]
        refine take_drop (i := 8) (v := undef) rfl (by kernel_rfl) (by kernel_rfl) (by kernel_rfl) (fun _ _ _ h => h) (Or.inr ⟨by rfl, rfl⟩) hHeld ?_
        simp only [Act.put, List.setIfInBounds_toArray, List.set_cons_zero, List.set_cons_succ]
        refine take_drop (i := 9) (v := undef) rfl (by kernel_rfl) (by kernel_rfl) (by kernel_rfl) (fun _ _ _ h => h) (Or.inr ⟨by rfl, rfl⟩) hHeld ?_
        simp only [Act.put, List.setIfInBounds_toArray, List.set_cons_zero, List.set_cons_succ]
        refine take_drop (i := 10) (v := undef) rfl (by kernel_rfl) (by kernel_rfl) (by kernel_rfl) (fun _ _ _ h => h) (Or.inr ⟨by rfl, rfl⟩) hHeld ?_
        simp only [Act.put, List.setIfInBounds_toArray, List.set_cons_zero, List.set_cons_succ]
        refine take_drop (i := 11) (v := undef) rfl (by kernel_rfl) (by kernel_rfl) (by kernel_rfl) (fun _ _ _ h => h) (Or.inr ⟨by rfl, rfl⟩) hHeld ?_
        simp only [Act.put, List.setIfInBounds_toArray, List.set_cons_zero, List.set_cons_succ]
        refine take_drop (i := 12) (v := undef) rfl (by kernel_rfl) (by kernel_rfl) (by kernel_rfl) (fun _ _ _ h => h) (Or.inr ⟨by rfl, rfl⟩) hHeld ?_
        simp only [Act.put, List.setIfInBounds_toArray, List.set_cons_zero, List.set_cons_succ]
        refine take_drop (i := 13) (v := undef) rfl (by kernel_rfl) (by kernel_rfl) (by kernel_rfl) (fun _ _ _ h => h) (Or.inr ⟨by rfl, rfl⟩) hHeld ?_
        simp only [Act.put, List.setIfInBounds_toArray, List.set_cons_zero, List.set_cons_succ]
        refine take_drop (i := 14) (v := undef) rfl (by kernel_rfl) (by kernel_rfl) (by kernel_rfl) (fun _ _ _ h => h) (Or.inr ⟨by rfl, rfl⟩) hHeld ?_
        simp only [Act.put, List.setIfInBounds_toArray, List.set_cons_zero, List.set_cons_succ]
        refine take_drop (i := 15) (v := undef) rfl (by kernel_rfl) (by kernel_rfl) (by kernel_rfl) (fun _ _ _ h => h) (Or.inr ⟨by rfl, rfl⟩) hHeld ?_
        simp only [Act.put, List.setIfInBounds_toArray, List.set_cons_zero, List.set_cons_succ]
        refine take_drop (i := 16) (v := undef) rfl (by kernel_rfl) (by kernel_rfl) (by kernel_rfl) (fun _ _ _ h => h) (Or.inr ⟨by rfl, rfl⟩) hHeld ?_
        simp only [Act.put, List.setIfInBounds_toArray, List.set_cons_zero, List.set_cons_succ]
        refine take_drop (i := 17) (v := ?v17_6) rfl (by kernel_rfl) (by kernel_rfl) (by kernel_rfl) (fun _ _ _ h => h) (Or.inl ⟨by rfl, ?h17_6⟩) hHeld ?r17_6
        case h17_6 => (intro wS hSw; go_simp; all_goals (with_reducible rfl))
        simp only [Act.put, List.setIfInBounds_toArray, List.set_cons_zero, List.set_cons_succ]
        refine wpAnyH_done (by kernel_rfl) ?_ _
        rename_i hKK
        have HF4 := Lib.hid (HF3.out.drew)
        try clear hHeld
        have hke : k = (Pairs l).length := HEND.out k hkr (.inr HOKA.out)
        have HKE := Lib.hid hke
        have HJE := Lib.hid (abides_fr HJ.out HJK.out HF4.out)
        clear hke
        refine hKK _ _ ((wpIn_wide (n := n)).1 ?_)
        clear hKK
        gi_wp2
        refine bodyPost_ret (results_none rfl _ _ _) rfl ?_
        have h9 := HJE.out
        rw [HKE.out] at h9
        first
          | exact ⟨⟨_, rfl⟩, .inl ⟨_, rfl, h9⟩⟩
          | exact ⟨⟨_, rfl⟩, .inl h9⟩
    · have hke : k = (Pairs l).length := HEND.out k hkr (.inl (by omega))
      have HKE := Lib.hid hke
      clear hj hp hsz hke
      gi_wp2
      go_end0
      exact ⟨⟨_, rfl⟩, .inl ⟨_, rfl, by have h9 := HJK.out; rw [HKE.out] at h9; exact h9⟩⟩
abbrev seqP (B1 : Nat) : Value := .func (.func 65) #[] #[.pointer (some ⟨B1, 0, none⟩)]
theorem tells_pairs {w : World} {S S0 : Nat → Prop} {B1 : Nat} {a : Option Addr} {ca : Nat} {l : List Ent} (hm : l.length ≤ 1000000) (hca : l.length ≤ ca) (b1 : w.cell? ⟨B1, 0, none⟩ = some (.slice a l.length ca)) (hp : Ents w S a l) (hS : ∀ k, S k → S0 k) (hB : S0 B1) :
    TellsS 65 #[.pointer (some ⟨B1, 0, none⟩)] (Pairs l) S0 w := fun y J Jx W hW hJ _ hY h0 => by
  have k : ∀ {p : Addr} {v : Value}, w.cell? p = some v → W.cell? p = some v := fun h => (hW.cell (cell_block h)).trans h
  refine pairs_in 4 (by omega) y B1 a ca l S S0 hm hca hS hB J Jx W hJ hY (k b1) (fun hl => ?_) h0
  obtain ⟨b, o, hb, ha, hc⟩ := hp hl
  exact ⟨b, o, hb, ha, fun i hi => ⟨k (hc i hi).c0, k (hc i hi).c1, k (hc i hi).c2, k (hc i hi).c3⟩⟩
/-- What pairs hands back. -/
def PairsRet (a : Option Addr) (n ca : Nat) (w : World) (e : Ending) (w' : World) : Prop := ∃ B1, e = .returned (seqP B1) ∧ Fr No w w' ∧ w'.cell? ⟨B1, 0, none⟩ = some (.slice a n ca) ∧ w.heap.size ≤ B1
set_option maxHeartbeats 800000 in
theorem pairs_c (a : Option Addr) (ca n : Nat) (w : World) : Calls Tryz.prog 35 #[.slice a n ca] w (PairsRet a n ca w) := by
  obtain ⟨w1, hw1⟩ : ∃ w1, w.alloc (.cells #[.slice a n ca] 22) = w1 := ⟨_, rfl⟩
  have f1 : Fr No w w1 := by rw [← hw1]; exact (Fr.refl No w).alloc _
  have a1 : At w1 w.heap.size 22 #[.slice a n ca] := by rw [← hw1]; exact At.new _ _ _
  have HR : Hid (PairsRet a n ca w (.returned (seqP w.heap.size)) w1) := Lib.hid ⟨_, rfl, f1, a1.cell 0, Nat.le_refl _⟩
  have HW := Lib.hid hw1
  clear f1 a1 hw1
  go_enter Tryz.func35, Tryz.ntmps35
  go_wp2_with fail
  go_ret
  rw [HW.out]
  exact HR.out
end Go.Proofs.YtlobnbbndkhcbaaGreatDoor
