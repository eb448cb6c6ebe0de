/-
  Layer 10, the program's own: Parse.
-/
import Derived.Test.YtidfjcaajejfoaaBcG
import Derived.Test.YtidfjcaajejfoaaBaSz
import Derived.Test.YtidfjcaajejfoaaBcA
namespace Go.Proofs.Ytidfjcaajejfoaa
set_option linter.unusedVariables false
open Go.RowKit

theorem infoBt : (Try.prog.info? 24).map (·.size) = some 2 := by kernel_rfl
theorem bparse_results (tmps : Array Value) (w : World) (g : Nat) (x y e : Value) (hp : tmps.getD 2 undef = .pointer (some ⟨g, 0, none⟩)) (he : tmps.getD 3 undef = e) (hg : At w g 24 #[x, y]) :
    (results Try.f22 tmps).run Try.prog w = .ok (.tuple #[.agg #[x, y], e]) w := by
  have hp' : tmps[2]?.getD undef = .pointer (some ⟨g, 0, none⟩) := by simpa using hp
  have he' : tmps[3]?.getD undef = e := by simpa using he
  have hl := run_loadVar_row (P := Try.prog) w g 24 24 #[x, y] (0, 0) _ hg Try.underlying24 rfl infoBt
  simp [results, Try.results22, hp', he', asAddr, hl]
theorem At.put2 {w : World} {g : Nat} {t : TypeId} {a b : Value} (h : At w g t #[a, b]) (x y : Value) :
    At ((w.setCell ⟨g, 0, none⟩ x).setCell ⟨g, 1, none⟩ y) g t #[x, y] ∧ Fr (One g) w ((w.setCell ⟨g, 0, none⟩ x).setCell ⟨g, 1, none⟩ y) :=
  ⟨(h.set_ 0 x).set_ 1 y, ((Fr.refl (One g) w).setCell (p := ⟨g, 0, none⟩) (fun _ => rfl) _).setCell (p := ⟨g, 1, none⟩) (fun _ => rfl) _⟩
/-- What Parse tells, by what is read. -/
theorem parse_fail {b : List UInt8} (h : parseP b = none) : ∀ q l, allO q l = true → batchB q.toNat l ≠ b := fun q l hl hb => by
  have := parseP_enc hl
  rw [hb, h] at this
  cases this
set_option maxRecDepth 20000 in
set_option maxHeartbeats 6400000 in
theorem bparse_c (a : Option Addr) (cap n : Nat) (b : List UInt8) (w : World) (hn : b.length = n) (hc : n ≤ cap) (hm : cap ≤ maxLen) (hs : n ≤ 1000000) (hr : Rd w a b) :
    Calls Try.prog 22 #[.slice a n cap] w (ParseR b w) := by
  obtain ⟨W1, hW1, hf1, _, _⟩ := box_batch w 0 (.slice none 0 0)
  have hat1 : At W1 w.heap.size 24 #[.int .i64 0, .slice none 0 0] := by rw [← hW1]; exact At.new _ _ _
  obtain ⟨R0, hR0⟩ : ∃ y, w.heap.size = y := ⟨_, rfl⟩
  rw [hR0] at hat1
  have C1 := Lib.hid (newr_c a n cap b W1 hn (by omega) (hr.keep hf1))
  have HBL : Hid (b.length ≤ 1000000) := Lib.hid (by omega)
  have HAT1 := Lib.hid hat1
  have HF1 := Lib.hid hf1
  have HW1 := Lib.hid hW1
  have HR0 := Lib.hid hR0
  have HNO := Lib.hid (fun h => parse_fail (b := b) h)
  have HYE := Lib.hid (fun q l h => parseP_good (b := b) (q := q) (l := l) h)
  have HPP : Hid (parseP b = if 64 < (numS (numS (b, false)).2).1 then none
    else if doneI (opsS (numS (numS (b, false)).2).1 (numS (numS (b, false)).2).2).2 = 0 ∧ allO ((numS (b, false)).1 : Int) (opsS (numS (numS (b, false)).2).1 (numS (numS (b, false)).2).2).1 = true
      then some (((numS (b, false)).1 : Int), (opsS (numS (numS (b, false)).2).1 (numS (numS (b, false)).2).2).1) else none) := Lib.hid rfl
  clear hat1 hf1 hW1 hr hc hm hn hR0
  go_enter Try.func22, Try.ntmps22
  go_wp2_with fail
  rw [HW1.out, HR0.out]
  go_wp2_with fail
  refine C1.out.mono ?_
  rintro e w2 ⟨B, S, rfl, hr2, hf2, hB2, hS2⟩
  have HAT2 := Lib.hid (HAT1.out.keep hf2 (fun h => h))
  have hRB : R0 < B := Nat.lt_of_lt_of_le HAT1.out.lt hB2
  have HSB : Hid (∀ k, S k → R0 < k ∧ k < B) := Lib.hid fun k hk => by have := hS2 k hk; have := HAT1.out.lt; omega
  have HF2 := Lib.hid (HF1.out.trans hf2)
  have C2 := Lib.hid (rnum_c w2 B S (b, false) hr2)
  have HL1 := Lib.hid (numS_len (b, false))
  obtain ⟨q, hq⟩ : ∃ q, (numS (b, false)).1 = q := ⟨_, rfl⟩
  obtain ⟨st1, hst1⟩ : ∃ s, (numS (b, false)).2 = s := ⟨_, rfl⟩
  rw [hq, hst1] at C2 HPP HL1
  have hq63 := HL1.out.2
  clear hq hst1 hr2 hf2 C1 HAT1 HF1 HW1 hB2 hS2
  go_wp2_with fail
  refine C2.out.mono ?_
  rintro e w3 ⟨rfl, hr3, hf3⟩
  have hRB' : ¬ One B R0 := fun h => by have h : R0 = B := h; omega
  have HAT3 := Lib.hid (HAT2.out.keep hf3 hRB')
  have HF3 := Lib.hid (HF2.out.then_ hf3 fun k hk h => by have h : k = B := h; have := HR0.out; omega)
  have C3 := Lib.hid (rnum_c w3 B S st1 hr3)
  have HL2 := Lib.hid (numS_len st1)
  obtain ⟨n2, hn2⟩ : ∃ q, (numS st1).1 = q := ⟨_, rfl⟩
  obtain ⟨st2, hst2⟩ : ∃ s, (numS st1).2 = s := ⟨_, rfl⟩
  rw [hn2, hst2] at C3 HPP HL2
  have hn263 := HL2.out.2
  have HLEN : Hid (st2.1.length ≤ 1000000) := Lib.hid (Nat.le_trans HL2.out.1 (Nat.le_trans HL1.out.1 HBL.out))
  clear hn2 hst2 hr3 hf3 C2 HAT2 HF2
  go_wp2_with fail
  refine C3.out.mono ?_
  rintro e w4 ⟨rfl, hr4, hf4⟩
  have HAT4 := Lib.hid (HAT3.out.keep hf4 hRB')
  have HF4 := Lib.hid (HF3.out.then_ hf4 fun k hk h => by have h : k = B := h; have := HR0.out; omega)
  have HR4 := Lib.hid hr4
  clear hr4 hf4 C3 HAT3 HF3
  by_cases h64 : (64 : Int) < (n2 : Int)
  · have hnone : parseP b = none := by rw [HPP.out, if_pos (by omega)]
    obtain ⟨z0, z1, z2, z3⟩ : w4.cell? ⟨R0, 0, none⟩ = some (.int .i64 0) ∧ w4.cell? ⟨R0, 1, none⟩ = some (.slice none 0 0) ∧ w4.frozen? ⟨R0, 0, none⟩ = false ∧ w4.frozen? ⟨R0, 1, none⟩ = false := ⟨HAT4.out.cell 0, HAT4.out.cell 1, HAT4.out.frozen 0, HAT4.out.frozen 1⟩
    obtain ⟨g1, g2⟩ := HAT4.out.put2 (.int .i64 0) (.slice none 0 0)
    have HG1 := Lib.hid g1
    have FIN : Hid (ParseR b w (.returned (.tuple #[.agg #[.int .i64 0, .slice none 0 0], .int .i64 20])) _) := Lib.hid ⟨HF4.out.then_ g2 fun k hk h => by have h : k = R0 := h; have := HR0.out; omega, .inr ⟨HNO.out hnone, rfl⟩⟩
    clear hnone g1 g2
    go_wp2_with fail
    refine bodyPost_ret (bparse_results _ _ _ _ _ _ rfl rfl HG1.out) rfl ?_
    exact FIN.out
  · obtain ⟨W7, hW7, hf7, d0, d1⟩ := box_batch w4 q (.slice none 0 0)
    have hat7 : At W7 w4.heap.size 24 #[.int .i64 (q : Int), .slice none 0 0] := by rw [← hW7]; exact At.new _ _ _
    obtain ⟨D, hD⟩ : ∃ y, w4.heap.size = y := ⟨_, rfl⟩
    have hBD : B < D := by rw [← hD]; exact HR4.out.lt
    rw [hD] at hat7
    have HSZ : Hid (W7.heap.size = D + 1) := Lib.hid (by rw [← hW7, ← hD]; simp [World.alloc, -World.alloc_eq])
    have HD7 := Lib.hid hat7
    have HR7 := Lib.hid (HR4.out.keep hf7 (fun h => h) (fun _ _ h => h))
    have HAT7 := Lib.hid (HAT4.out.keep hf7 (fun h => h))
    have HF7 := Lib.hid (HF4.out.trans hf7)
    have HW7 := Lib.hid hW7
    have HD := Lib.hid hD
    rw [if_neg (by omega : ¬ 64 < n2)] at HPP
    clear hW7 hf7 hat7 hD d0 d1 HAT4 HF4 HR4
    go_wp2_with fail
    rw [HW7.out, HD.out]
    go_loopw [20] (fun i wr => ∃ (k : Nat) (a6 : Option Addr) (c6 : Nat), i = .int .i64 k ∧ k ≤ n2 ∧ Rr wr B S (opsS k st2).2 ∧ At wr D 24 #[.int .i64 (q : Int), .slice a6 k c6] ∧ RowG wr (fun b => D < b) 30 3 (.slice a6 k c6) k (opsC (opsS k st2).1) ∧ Fr (Two (One B) (One D)) W7 wr) (fun i _ => n2 - (intOf i).toNat)
    case atStart => exact ⟨0, none, 0, rfl, Nat.zero_le _, HR7.out, HD7.out, RowG.nil _ _ _ _, Fr.refl _ _⟩
    case round =>
      obtain ⟨k, a6, c6, rfl, hkn, hrd, hat, hrow, hfr⟩ := hrel
      have HRD := Lib.hid hrd
      have HAT := Lib.hid hat
      have HRO := Lib.hid hrow
      have HF := Lib.hid hfr
      clear hrd hat hrow hfr
      by_cases hlt : k < n2
      · have HYX : Hid ((opsS k st2).1 ++ [(opS (opsS k st2).2).1] = (opsS (k + 1) st2).1) := Lib.hid rfl
        obtain ⟨x, hx⟩ : ∃ x, (opS (opsS k st2).2).1 = x := ⟨_, rfl⟩
        rw [hx] at HYX
        have HX := Lib.hid hx
        clear hx
        obtain ⟨y, hy⟩ : ∃ y, (opsS k st2).1 = y := ⟨_, rfl⟩
        rw [hy] at HRO HYX
        clear hy
        go_wp2_with fail
        refine wp_region_held_drew (S := fun w' => Fr (Two (One B) (One D)) W7 w') (by kernel_rfl) HF.out.drew (fun hHeld => ?_)
        refine take_drop (i := 0) (v := ?v0_p1) rfl (by kernel_rfl) (by kernel_rfl) (by kernel_rfl) (fun _ _ _ h => h) (Or.inl ⟨by rfl, ?h0_p1⟩) hHeld ?r0_p1
        case h0_p1 => (intro wS hSw; go_simp; all_goals (with_reducible rfl))
        simp only [Act.put, List.setIfInBounds_toArray, List.set_cons_zero, List.set_cons_succ]
        refine take_drop (i := 2) (v := ?v2_p2) rfl (by kernel_rfl) (by kernel_rfl) (by kernel_rfl) (fun _ _ _ h => h) (Or.inl ⟨by rfl, ?h2_p2⟩) hHeld ?r2_p2
        case h2_p2 => (intro wS hSw; go_simp; all_goals (with_reducible rfl))
        simp only [Act.put, List.setIfInBounds_toArray, List.set_cons_zero, List.set_cons_succ]
        obtain ⟨wR, hR⟩ : ∃ y, wr.drew = y := ⟨_, rfl⟩
        have hfR : Fr No wr wR := by rw [← hR]; exact (Fr.refl No wr).drew
        rw [hR] at hHeld ⊢
        have HRD := Lib.hid (HRD.out.keep hfR (fun h => h) (fun _ _ h => h))
        have HAT := Lib.hid (HAT.out.keep hfR (fun h => h))
        have HRO := Lib.hid (HRO.out.keep hfR (fun _ _ h => h))
        have HF := Lib.hid hHeld
        clear hHeld hR hfR
        refine wpAnyH_ready (rs := [1, 3]) (by kernel_rfl) (by simp) ?_
        refine do_drop (i := 1) rfl (fun K hK => ?_) ?_
        · have d1 := HAT.out.cell 1
          go_simp
          refine hK.out _ _ HF.out ?_
          clear hK K d1
          try simp only [Act.put, List.setIfInBounds_toArray, List.set_cons_zero, List.set_cons_succ]
          refine wpAnyH_ready (rs := [3]) (by kernel_rfl) (by simp) ?_
          refine do_drop (i := 3) rfl (fun K hK => ?_) AllReadyH.nil
          go_simp
          refine (readOp_c wR B S _ HRD.out (fun k hk => by have := HSB.out k hk; have := HRD.out.lt; omega)).mono ?_
          rintro e v1 ⟨rfl, hr_, hf_⟩
          rw [HX.out]
          have HRD := Lib.hid hr_
          have HAT := Lib.hid (HAT.out.keep hf_ (fun h => by have h : D = B := h; omega))
          have HRO := Lib.hid (HRO.out.keep hf_ (fun b h1 h2 => by have h2 : b = B := h2; omega))
          have HF := Lib.hid (HF.out.then_ hf_ fun k hk h => .inl h)
          unfold opV
          refine hK.out _ _ HF.out ?_
          clear hK K hr_ hf_
          try simp only [Act.put, List.setIfInBounds_toArray, List.set_cons_zero, List.set_cons_succ]
          refine wpAnyH_ready (rs := [4]) (by kernel_rfl) (by simp) ?_
          refine do_drop (i := 4) rfl (fun K hK => ?_) AllReadyH.nil
          obtain ⟨v2, hW_, hf_, hat_⟩ := box_op v1 x
          obtain ⟨g8, hG_⟩ : ∃ y, v1.heap.size = y := ⟨_, rfl⟩
          have HG8 : Hid (D < g8) := Lib.hid (by rw [← hG_]; exact HAT.out.lt)
          have HGR : Hid (RowG v1 (fun b => D < b ∧ b < g8) 30 3 (.slice a6 k c6) k (opsC y)) := Lib.hid (HRO.out.sub fun b hb h => ⟨h, by rw [← hG_]; exact hb⟩)
          rw [hG_] at hat_
          go_simp
          have HO8 : Hid (Ops v2 (One g8) (some ⟨g8, 0, none⟩) [x]) := Lib.hid (fun _ => ⟨g8, 0, rfl, rfl, fun i hi => by
            have : i = 0 := by simpa using hi
            subst this
            simpa using hat_⟩)
          have HRD := Lib.hid (HRD.out.keep hf_ (fun h => h) (fun _ _ h => h))
          have HAT := Lib.hid (HAT.out.keep hf_ (fun h => h))
          have HGR := Lib.hid (HGR.out.keep hf_ fun _ _ h => h)
          have HF := Lib.hid (HF.out.then_ hf_ fun _ _ h => h.elim)
          refine hK.out _ _ HF.out ?_
          clear hK K hW_ hf_ hat_ hG_
          try simp only [Act.put, List.setIfInBounds_toArray, List.set_cons_zero, List.set_cons_succ]
          obtain ⟨v9, w9, hrun9, hrow9, hf9⟩ := RowG.moreO (l' := [x]) HGR.out (some ⟨g8, 0, none⟩) 1 1 rfl (by omega) HO8.out (by omega)
          obtain ⟨a9, c9, rfl, _, _, _⟩ := hrow9.form
          have HRUN := Lib.hid hrun9
          have hat9 := HAT.out.keep hf9 (fun h => by have := h.1; omega)
          have hrd9 := HRD.out.keep hf9 (fun h => by have := h.1; omega) (fun k hk h => by have := h.1; have := HSB.out k hk; omega)
          have HF9 := Lib.hid (HF.out.then_ hf9 fun b hb h => by have := h.1; have := HSZ.out; omega)
          have hlt9 := HAT.out.lt
          have hrow10 := hrow9.sub (T := fun b => D < b) fun b hb h => by
            rcases h with h | h
            · exact h.1
            · have := h.1; omega
          refine wpAnyH_ready (rs := [5]) (by kernel_rfl) (by simp) ?_
          refine do_drop (i := 5) rfl (fun K hK => ?_) AllReadyH.nil
          rw [if_pos (by rfl)]
          refine oper_append_run _ _ 22 rfl rfl rfl HRUN.out ?_
          refine hK.out _ _ HF9.out ?_
          clear hK K
          try simp only [Act.put, List.setIfInBounds_toArray, List.set_cons_zero, List.set_cons_succ]
          refine take_drop (i := 6) (v := ?v6_p3) rfl (by kernel_rfl) (by kernel_rfl) (by kernel_rfl) (fun _ _ _ h => h) (Or.inl ⟨by rfl, ?h6_p3⟩) HF9.out ?r6_p3
          case h6_p3 => (intro wS hSw; go_simp; all_goals (with_reducible rfl))
          simp only [Act.put, List.setIfInBounds_toArray, List.set_cons_zero, List.set_cons_succ]
          have q1 := hat9.cell 1
          have q2 := hat9.frozen 1
          have hat10 := hat9.set_ 1 (.slice a9 (k + 1) c9)
          have hf10 : Fr (One D) w9 (w9.setCell ⟨D, 1, none⟩ (.slice a9 (k + 1) c9)) := (Fr.refl (One D) w9).setCell (p := ⟨D, 1, none⟩) (fun _ => rfl) _
          have HF10 := Lib.hid (HF9.out.then_ hf10 fun k hk h => .inr h)
          have HAT10 := Lib.hid hat10
          have HRD10 := Lib.hid (hrd9.keep hf10 (fun h => by have h : B = D := h; omega) (fun k hk h => by have h : k = D := h; have := HSB.out k hk; omega))
          have HRO10 := Lib.hid (hrow10.keep hf10 fun b h1 h2 => by have h2 : b = D := h2; omega)
          clear hat9 hrd9 hrow9 hrow10 hf9 hat10 hf10 hrun9
          refine wpAnyH_ready (rs := [7]) (by kernel_rfl) (by simp) ?_
          refine do_drop (i := 7) rfl (fun K hK => ?_) AllReadyH.nil
          go_simp
          refine hK.out _ _ HF10.out ?_
          clear hK K
          try simp only [Act.put, List.setIfInBounds_toArray, List.set_cons_zero, List.set_cons_succ]
          refine wpAnyH_done (by kernel_rfl) ?_ _
          go_wp2_with fail
          go_roundw
          case rel => exact ⟨k + 1, a9, c9, by simp, by omega, HRD10.out, HAT10.out, HYX.out ▸ HRO10.out, HF10.out⟩
          case measure => simp [intOf]; omega

        refine do_drop (i := 3) rfl (fun K hK => ?_) AllReadyH.nil
        go_simp
        refine (readOp_c wR B S _ HRD.out (fun k hk => by have := HSB.out k hk; have := HRD.out.lt; omega)).mono ?_
        rintro e v1 ⟨rfl, hr_, hf_⟩
        rw [HX.out]
        have HRD := Lib.hid hr_
        have HAT := Lib.hid (HAT.out.keep hf_ (fun h => by have h : D = B := h; omega))
        have HRO := Lib.hid (HRO.out.keep hf_ (fun b h1 h2 => by have h2 : b = B := h2; omega))
        have HF := Lib.hid (HF.out.then_ hf_ fun k hk h => .inl h)
        unfold opV
        refine hK.out _ _ HF.out ?_
        clear hK K hr_ hf_
        try simp only [Act.put, List.setIfInBounds_toArray, List.set_cons_zero, List.set_cons_succ]
        refine wpAnyH_ready (rs := [1, 4]) (by kernel_rfl) (by simp) ?_
        refine do_drop (i := 1) rfl (fun K hK => ?_) ?_
        · have d1 := HAT.out.cell 1
          go_simp
          refine hK.out _ _ HF.out ?_
          clear hK K d1
          try simp only [Act.put, List.setIfInBounds_toArray, List.set_cons_zero, List.set_cons_succ]
          refine wpAnyH_ready (rs := [4]) (by kernel_rfl) (by simp) ?_
          refine do_drop (i := 4) rfl (fun K hK => ?_) AllReadyH.nil
          obtain ⟨v2, hW_, hf_, hat_⟩ := box_op v1 x
          obtain ⟨g8, hG_⟩ : ∃ y, v1.heap.size = y := ⟨_, rfl⟩
          have HG8 : Hid (D < g8) := Lib.hid (by rw [← hG_]; exact HAT.out.lt)
          have HGR : Hid (RowG v1 (fun b => D < b ∧ b < g8) 30 3 (.slice a6 k c6) k (opsC y)) := Lib.hid (HRO.out.sub fun b hb h => ⟨h, by rw [← hG_]; exact hb⟩)
          rw [hG_] at hat_
          go_simp
          have HO8 : Hid (Ops v2 (One g8) (some ⟨g8, 0, none⟩) [x]) := Lib.hid (fun _ => ⟨g8, 0, rfl, rfl, fun i hi => by
            have : i = 0 := by simpa using hi
            subst this
            simpa using hat_⟩)
          have HRD := Lib.hid (HRD.out.keep hf_ (fun h => h) (fun _ _ h => h))
          have HAT := Lib.hid (HAT.out.keep hf_ (fun h => h))
          have HGR := Lib.hid (HGR.out.keep hf_ fun _ _ h => h)
          have HF := Lib.hid (HF.out.then_ hf_ fun _ _ h => h.elim)
          refine hK.out _ _ HF.out ?_
          clear hK K hW_ hf_ hat_ hG_
          try simp only [Act.put, List.setIfInBounds_toArray, List.set_cons_zero, List.set_cons_succ]
          obtain ⟨v9, w9, hrun9, hrow9, hf9⟩ := RowG.moreO (l' := [x]) HGR.out (some ⟨g8, 0, none⟩) 1 1 rfl (by omega) HO8.out (by omega)
          obtain ⟨a9, c9, rfl, _, _, _⟩ := hrow9.form
          have HRUN := Lib.hid hrun9
          have hat9 := HAT.out.keep hf9 (fun h => by have := h.1; omega)
          have hrd9 := HRD.out.keep hf9 (fun h => by have := h.1; omega) (fun k hk h => by have := h.1; have := HSB.out k hk; omega)
          have HF9 := Lib.hid (HF.out.then_ hf9 fun b hb h => by have := h.1; have := HSZ.out; omega)
          have hlt9 := HAT.out.lt
          have hrow10 := hrow9.sub (T := fun b => D < b) fun b hb h => by
            rcases h with h | h
            · exact h.1
            · have := h.1; omega
          refine wpAnyH_ready (rs := [5]) (by kernel_rfl) (by simp) ?_
          refine do_drop (i := 5) rfl (fun K hK => ?_) AllReadyH.nil
          rw [if_pos (by rfl)]
          refine oper_append_run _ _ 22 rfl rfl rfl HRUN.out ?_
          refine hK.out _ _ HF9.out ?_
          clear hK K
          try simp only [Act.put, List.setIfInBounds_toArray, List.set_cons_zero, List.set_cons_succ]
          refine take_drop (i := 6) (v := ?v6_p4) rfl (by kernel_rfl) (by kernel_rfl) (by kernel_rfl) (fun _ _ _ h => h) (Or.inl ⟨by rfl, ?h6_p4⟩) HF9.out ?r6_p4
          case h6_p4 => (intro wS hSw; go_simp; all_goals (with_reducible rfl))
          simp only [Act.put, List.setIfInBounds_toArray, List.set_cons_zero, List.set_cons_succ]
          have q1 := hat9.cell 1
          have q2 := hat9.frozen 1
          have hat10 := hat9.set_ 1 (.slice a9 (k + 1) c9)
          have hf10 : Fr (One D) w9 (w9.setCell ⟨D, 1, none⟩ (.slice a9 (k + 1) c9)) := (Fr.refl (One D) w9).setCell (p := ⟨D, 1, none⟩) (fun _ => rfl) _
          have HF10 := Lib.hid (HF9.out.then_ hf10 fun k hk h => .inr h)
          have HAT10 := Lib.hid hat10
          have HRD10 := Lib.hid (hrd9.keep hf10 (fun h => by have h : B = D := h; omega) (fun k hk h => by have h : k = D := h; have := HSB.out k hk; omega))
          have HRO10 := Lib.hid (hrow10.keep hf10 fun b h1 h2 => by have h2 : b = D := h2; omega)
          clear hat9 hrd9 hrow9 hrow10 hf9 hat10 hf10 hrun9
          refine wpAnyH_ready (rs := [7]) (by kernel_rfl) (by simp) ?_
          refine do_drop (i := 7) rfl (fun K hK => ?_) AllReadyH.nil
          go_simp
          refine hK.out _ _ HF10.out ?_
          clear hK K
          try simp only [Act.put, List.setIfInBounds_toArray, List.set_cons_zero, List.set_cons_succ]
          refine wpAnyH_done (by kernel_rfl) ?_ _
          go_wp2_with fail
          go_roundw
          case rel => exact ⟨k + 1, a9, c9, by simp, by omega, HRD10.out, HAT10.out, HYX.out ▸ HRO10.out, HF10.out⟩
          case measure => simp [intOf]; omega

        refine do_drop (i := 4) rfl (fun K hK => ?_) AllReadyH.nil
        obtain ⟨v2, hW_, hf_, hat_⟩ := box_op v1 x
        obtain ⟨g8, hG_⟩ : ∃ y, v1.heap.size = y := ⟨_, rfl⟩
        have HG8 : Hid (D < g8) := Lib.hid (by rw [← hG_]; exact HAT.out.lt)
        have HGR : Hid (RowG v1 (fun b => D < b ∧ b < g8) 30 3 (.slice a6 k c6) k (opsC y)) := Lib.hid (HRO.out.sub fun b hb h => ⟨h, by rw [← hG_]; exact hb⟩)
        rw [hG_] at hat_
        go_simp
        have HO8 : Hid (Ops v2 (One g8) (some ⟨g8, 0, none⟩) [x]) := Lib.hid (fun _ => ⟨g8, 0, rfl, rfl, fun i hi => by
          have : i = 0 := by simpa using hi
          subst this
          simpa using hat_⟩)
        have HRD := Lib.hid (HRD.out.keep hf_ (fun h => h) (fun _ _ h => h))
        have HAT := Lib.hid (HAT.out.keep hf_ (fun h => h))
        have HGR := Lib.hid (HGR.out.keep hf_ fun _ _ h => h)
        have HF := Lib.hid (HF.out.then_ hf_ fun _ _ h => h.elim)
        refine hK.out _ _ HF.out ?_
        clear hK K hW_ hf_ hat_ hG_
        try simp only [Act.put, List.setIfInBounds_toArray, List.set_cons_zero, List.set_cons_succ]
        refine wpAnyH_ready (rs := [1]) (by kernel_rfl) (by simp) ?_
        refine do_drop (i := 1) rfl (fun K hK => ?_) AllReadyH.nil
        have d1 := HAT.out.cell 1
        go_simp
        refine hK.out _ _ HF.out ?_
        clear hK K d1
        try simp only [Act.put, List.setIfInBounds_toArray, List.set_cons_zero, List.set_cons_succ]
        obtain ⟨v9, w9, hrun9, hrow9, hf9⟩ := RowG.moreO (l' := [x]) HGR.out (some ⟨g8, 0, none⟩) 1 1 rfl (by omega) HO8.out (by omega)
        obtain ⟨a9, c9, rfl, _, _, _⟩ := hrow9.form
        have HRUN := Lib.hid hrun9
        have hat9 := HAT.out.keep hf9 (fun h => by have := h.1; omega)
        have hrd9 := HRD.out.keep hf9 (fun h => by have := h.1; omega) (fun k hk h => by have := h.1; have := HSB.out k hk; omega)
        have HF9 := Lib.hid (HF.out.then_ hf9 fun b hb h => by have := h.1; have := HSZ.out; omega)
        have hlt9 := HAT.out.lt
        have hrow10 := hrow9.sub (T := fun b => D < b) fun b hb h => by
          rcases h with h | h
          · exact h.1
          · have := h.1; omega
        refine wpAnyH_ready (rs := [5]) (by kernel_rfl) (by simp) ?_
        refine do_drop (i := 5) rfl (fun K hK => ?_) AllReadyH.nil
        rw [if_pos (by rfl)]
        refine oper_append_run _ _ 22 rfl rfl rfl HRUN.out ?_
        refine hK.out _ _ HF9.out ?_
        clear hK K
        try simp only [Act.put, List.setIfInBounds_toArray, List.set_cons_zero, List.set_cons_succ]
        refine take_drop (i := 6) (v := ?v6_p5) rfl (by kernel_rfl) (by kernel_rfl) (by kernel_rfl) (fun _ _ _ h => h) (Or.inl ⟨by rfl, ?h6_p5⟩) HF9.out ?r6_p5
        case h6_p5 => (intro wS hSw; go_simp; all_goals (with_reducible rfl))
        simp only [Act.put, List.setIfInBounds_toArray, List.set_cons_zero, List.set_cons_succ]
        have q1 := hat9.cell 1
        have q2 := hat9.frozen 1
        have hat10 := hat9.set_ 1 (.slice a9 (k + 1) c9)
        have hf10 : Fr (One D) w9 (w9.setCell ⟨D, 1, none⟩ (.slice a9 (k + 1) c9)) := (Fr.refl (One D) w9).setCell (p := ⟨D, 1, none⟩) (fun _ => rfl) _
        have HF10 := Lib.hid (HF9.out.then_ hf10 fun k hk h => .inr h)
        have HAT10 := Lib.hid hat10
        have HRD10 := Lib.hid (hrd9.keep hf10 (fun h => by have h : B = D := h; omega) (fun k hk h => by have h : k = D := h; have := HSB.out k hk; omega))
        have HRO10 := Lib.hid (hrow10.keep hf10 fun b h1 h2 => by have h2 : b = D := h2; omega)
        clear hat9 hrd9 hrow9 hrow10 hf9 hat10 hf10 hrun9
        refine wpAnyH_ready (rs := [7]) (by kernel_rfl) (by simp) ?_
        refine do_drop (i := 7) rfl (fun K hK => ?_) AllReadyH.nil
        go_simp
        refine hK.out _ _ HF10.out ?_
        clear hK K
        try simp only [Act.put, List.setIfInBounds_toArray, List.set_cons_zero, List.set_cons_succ]
        refine wpAnyH_done (by kernel_rfl) ?_ _
        go_wp2_with fail
        go_roundw
        case rel => exact ⟨k + 1, a9, c9, by simp, by omega, HRD10.out, HAT10.out, HYX.out ▸ HRO10.out, HF10.out⟩
        case measure => simp [intOf]; omega
      · have hk' : k = n2 := by omega
        subst hk'
        have CD := Lib.hid (rdone_c wr B S _ HRD.out)
        have HWF := Lib.hid (opsS_wf k (st := st2) HLEN.out).1
        have HLY := Lib.hid (opsS_length k st2)
        obtain ⟨y, hy⟩ : ∃ y, (opsS k st2).1 = y := ⟨_, rfl⟩
        obtain ⟨stF, hstF⟩ : ∃ s, (opsS k st2).2 = s := ⟨_, rfl⟩
        rw [hy] at HRO HPP HWF HLY
        rw [hstF] at HPP CD
        obtain ⟨dn, hdn⟩ : ∃ d, doneI stF = d := ⟨_, rfl⟩
        rw [hdn] at HPP CD
        have hRR : ¬ Two (One B) (One D) R0 := fun h => h.elim (fun h => by have h : R0 = B := h; omega) fun h => by have h : R0 = D := h; omega
        have HAR := Lib.hid (HAT7.out.keep HF.out hRR)
        have HFR : Hid (Fr No w wr) := Lib.hid (HF7.out.then_ HF.out fun b hb h => by
          have := HR0.out
          rcases h with h | h
          · have h : b = B := h; omega
          · have h : b = D := h; omega)
        clear hy hstF hdn HLEN HR7 HD7 HAT7 HF7 HF HRD hRR
        by_cases hd0 : dn = 0
        · subst hd0
          have hops := HRO.out.opsN HLY.out
          obtain ⟨a', c', e1, k1, k2, _⟩ := HRO.out.form
          injection e1 with e1 e2 e3
          subst e1 e3
          have hq6 : (Lit.int .i64 ((q : Nat) : Int)).wf = true := by
            simp only [Lit.wf, IntKind.min, IntKind.max, IntKind.signed, IntKind.bits]
            simp
            omega
          have CC := bcheck_c (q : Int) a6 c6 y wr _ hq6 (by rw [HLY.out]; exact k1) k2 hops HWF.out
          rw [HLY.out] at CC
          have CC := Lib.hid CC
          have t0 := HAT.out.cell 0
          have t1 := HAT.out.cell 1
          have HO := Lib.hid hops
          clear k1 k2 hops
          cases hall : allO (q : Int) y with
          | true =>
            have hpar : parseP b = some ((q : Int), y) := by rw [HPP.out, hall]; simp
            obtain ⟨g1, g2⟩ := HYE.out _ _ hpar
            have hE : errO (allO (q : Int) y) = .int .i64 0 := by rw [hall]; rfl
            rw [hE] at CC
            have HALL := Lib.hid hall
            have HBB := Lib.hid g2
            clear hall hE hpar g1 g2 HYE HNO HPP
            go_wp2_with fail
            refine CD.out.mono ?_
            rintro e w8 ⟨rfl, rfl⟩
            go_wp2_with fail
            refine CC.out.mono ?_
            rintro e w9 ⟨rfl, hf9⟩
            have t0 := hf9.cell t0 (fun h => h)
            have t1 := hf9.cell t1 (fun h => h)
            have hr9 := HAR.out.keep hf9 (fun h => h)
            have r0 := hr9.cell 0
            have r1 := hr9.cell 1
            have y0 := hr9.frozen 0
            have y1 := hr9.frozen 1
            obtain ⟨g1, g2⟩ := hr9.put2 (.int .i64 ((q : Nat) : Int)) (.slice a6 k c6)
            have hfin := (HFR.out.trans hf9).then_ g2 fun k hk h => by have h : k = R0 := h; have := HR0.out; omega
            have hrow := (HRO.out.keep hf9 fun _ _ h => h).keep g2 fun b h1 h2 => by have h2 : b = R0 := h2; omega
            have HG1 := Lib.hid g1
            have FIN : Hid (ParseR b w (.returned (.tuple #[.agg #[.int .i64 ((q : Nat) : Int), .slice a6 k c6], .int .i64 0])) ((w9.setCell ⟨R0, 0, none⟩ (.int .i64 ((q : Nat) : Int))).setCell ⟨R0, 1, none⟩ (.slice a6 k c6))) := Lib.hid ⟨hfin, .inl ⟨(q : Int), y, _, HALL.out, HWF.out, HBB.out, rfl, by
              rw [HLY.out]
              exact hrow.sub fun b hb h => .inr ⟨by have := HR0.out; omega, hb⟩⟩⟩
            clear g1 g2 hfin hrow hr9 hf9
            go_wp2_with fail
            refine bodyPost_ret (bparse_results _ _ _ _ _ _ rfl rfl HG1.out) rfl ?_
            exact FIN.out
          | false =>
            have hnone : parseP b = none := by rw [HPP.out, hall]; simp
            have hE : errO (allO (q : Int) y) = .int .i64 100 := by rw [hall]; rfl
            rw [hE] at CC
            have HN := Lib.hid (HNO.out hnone)
            clear hall hE hnone HYE HNO HPP
            go_wp2_with fail
            refine CD.out.mono ?_
            rintro e w8 ⟨rfl, rfl⟩
            go_wp2_with fail
            refine CC.out.mono ?_
            rintro e w9 ⟨rfl, hf9⟩
            have hr9 := HAR.out.keep hf9 (fun h => h)
            have r0 := hr9.cell 0
            have r1 := hr9.cell 1
            have y0 := hr9.frozen 0
            have y1 := hr9.frozen 1
            obtain ⟨g1, g2⟩ := hr9.put2 (.int .i64 0) (.slice none 0 0)
            have hfin := (HFR.out.trans hf9).then_ g2 fun k hk h => by have h : k = R0 := h; have := HR0.out; omega
            have HG1 := Lib.hid g1
            have FIN : Hid (ParseR b w (.returned (.tuple #[.agg #[.int .i64 0, .slice none 0 0], .int .i64 20])) ((w9.setCell ⟨R0, 0, none⟩ (.int .i64 0)).setCell ⟨R0, 1, none⟩ (.slice none 0 0))) := Lib.hid ⟨hfin, .inr ⟨HN.out, rfl⟩⟩
            clear g1 g2 hfin hr9 hf9
            go_wp2_with fail
            refine bodyPost_ret (bparse_results _ _ _ _ _ _ rfl rfl HG1.out) rfl ?_
            exact FIN.out
        · have hnone : parseP b = none := by rw [HPP.out, if_neg (fun h => hd0 h.1)]
          have hdn2 : (dn != 0) = true := by simpa using hd0
          have HN := Lib.hid (HNO.out hnone)
          have r0 := HAR.out.cell 0
          have r1 := HAR.out.cell 1
          have y0 := HAR.out.frozen 0
          have y1 := HAR.out.frozen 1
          obtain ⟨g1, g2⟩ := HAR.out.put2 (.int .i64 0) (.slice none 0 0)
          have hfin := HFR.out.then_ g2 fun k hk h => by have h : k = R0 := h; have := HR0.out; omega
          have HG1 := Lib.hid g1
          have FIN : Hid (ParseR b w (.returned (.tuple #[.agg #[.int .i64 0, .slice none 0 0], .int .i64 20])) ((wr.setCell ⟨R0, 0, none⟩ (.int .i64 0)).setCell ⟨R0, 1, none⟩ (.slice none 0 0))) := Lib.hid ⟨hfin, .inr ⟨HN.out, rfl⟩⟩
          clear g1 g2 hfin hnone HYE HNO HPP
          go_wp2_with fail
          refine CD.out.mono ?_
          rintro e w8 ⟨rfl, rfl⟩
          go_wp2_with fail
          refine bodyPost_ret (bparse_results _ _ _ _ _ _ rfl rfl HG1.out) rfl ?_
          exact FIN.out
end Go.Proofs.Ytidfjcaajejfoaa
