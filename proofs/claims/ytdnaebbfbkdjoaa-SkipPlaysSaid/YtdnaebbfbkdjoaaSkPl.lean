/-
  Layer 5: the walk of SkipPlays.
-/
import Derived.Test.YtdnaebbfbkdjoaaSkZ
import Derived.Test.YtdnaebbfbkdjoaaHeld
namespace Go.Proofs.Ytdnaebbfbkdjoaa
set_option linter.unusedVariables false
open Go.RowKit

open KI in
set_option maxRecDepth 20000 in
set_option maxHeartbeats 8000000 in
theorem skipPlays_walk (W : World) (a : Option Addr) (cap : Nat) (l : List Pr) (hc : l.length ≤ cap) (hm : cap ≤ maxLen) (rd : Ops W a l) (a' : Option Addr) (cap' : Nat) (l' : List Int) (hc' : l'.length ≤ cap') (hm' : cap' ≤ maxLen) (rd' : Ints W a' l') :
    Calls Try.prog 3 #[.slice a l.length cap, .slice a' l'.length cap'] W fun e w' => e = .returned (.bool true) ∧ Below W.heap.size W w' := by
  have HRD := Lib.hid rd
  have HRD' := Lib.hid rd'
  unfold maxLen at hm hm'
  obtain ⟨n, hn⟩ : ∃ n, l.length = n := ⟨_, rfl⟩
  obtain ⟨n', hn'⟩ : ∃ n, l'.length = n := ⟨_, rfl⟩
  rw [hn] at hc
  rw [hn'] at hc'
  rw [hn, hn']
  have HN := Lib.hid hn
  have HN' := Lib.hid hn'
  have HC := Lib.hid (new_c W)
  clear rd hn rd' hn'
  have fin : ∀ w' : World, Fr No W w' → Below W.heap.size W w' := fun w' f => f.below (Nat.le_refl _) (fun _ h => h.elim)
  have FIN := Lib.hid fin
  clear fin
  go_enter Try.func3, Try.ntmps3
  go_wp2_with fail
  refine HC.out.mono ?_
  rintro e w1 ⟨⟨b, hb, hs, rfl, L1, low⟩, f1⟩
  have HL1 := Lib.hid L1
  have HLO := Lib.hid low
  have HF1 := Lib.hid f1
  clear L1 low f1
  have HA := Lib.hid (awake_c w1)
  by_cases hbig : 80 < n
  · have d1 : decide ((80 : Int) < (n : Int)) = true := by rw [decide_eq_true_eq]; omega
    go_wp2_with fail
    refine HA.out.mono ?_
    rintro e w2 ⟨rfl, f2⟩
    have HF2 := Lib.hid (HF1.out.trans f2)
    clear f2
    go_wp2_with fail
    go_ret
    exact ⟨rfl, FIN.out _ HF2.out⟩
  have d1 : decide ((80 : Int) < (n : Int)) = false := by rw [decide_eq_false_iff_not]; omega
  by_cases hbig2 : 30 < n'
  · have d2 : decide ((30 : Int) < (n' : Int)) = true := by rw [decide_eq_true_eq]; omega
    go_wp2_with fail
    refine HA.out.mono ?_
    rintro e w2 ⟨rfl, f2⟩
    have HF2 := Lib.hid (HF1.out.trans f2)
    clear f2
    go_wp2_with fail
    go_ret
    exact ⟨rfl, FIN.out _ HF2.out⟩
  have d2 : decide ((30 : Int) < (n' : Int)) = false := by rw [decide_eq_false_iff_not]; omega
  clear HA
  have g1 := (Fr.refl No w1).alloc (.cells #[.slice none 0 0] 30)
  have HG1 := Lib.hid (HF1.out.trans g1)
  have HLa := Lib.hid (HL1.out.keep g1 (fun _ _ h => h))
  have HR1 : Hid (RL (w1.alloc (.cells #[.slice none 0 0] 30)) (One w1.heap.size) w1.heap.size []) := Lib.hid ⟨⟨_, At.new w1 _ _, RowG.nil _ _ _ _, fun g h => by simp [Value.ownBlock] at h⟩, rfl⟩
  have HX1 : Hid (∀ z, One w1.heap.size z → W.heap.size ≤ z ∧ z < (w1.alloc (.cells #[.slice none 0 0] 30)).heap.size) := Lib.hid fun z (hz : z = w1.heap.size) => by
    subst hz
    exact ⟨HF1.out.size, by simp⟩
  have HD1 : Hid (∀ z, SkOn b hb hs ([] : List N2) z → ¬ One w1.heap.size z) := Lib.hid fun z hz (e : z = w1.heap.size) => absurd (HL1.out.lt_size z hz) (by omega)
  clear g1
  go_wp2_with fail
  clear d1 d2
  go_loopw [61] (fun i wr => ∃ (j : Nat) (ns : List N2) (X : Nat → Prop), i = .int .i64 j ∧ j ≤ n ∧ SkL wr b hb hs ns ∧ RL wr X w1.heap.size (ns.map prOf) ∧ (∀ z, X z → W.heap.size ≤ z ∧ z < wr.heap.size) ∧ (∀ z, SkOn b hb hs ns z → ¬ X z) ∧ ns.length ≤ j ∧ (∀ z, SkOn b hb hs ns z → W.heap.size ≤ z) ∧ Fr No W wr) (fun i _ => n - (intOf i).toNat)
  case atStart => exact ⟨0, [], One w1.heap.size, rfl, Nat.zero_le _, HLa.out, HR1.out, HX1.out, HD1.out, Nat.le_refl _, HLO.out, HG1.out⟩
  case round =>
    obtain ⟨j, ns, X, rfl, hj, L, R, hX, hdis, hle, hlo, hf⟩ := hrel
    have HL := Lib.hid L
    have HR := Lib.hid R
    have HX := Lib.hid hX
    have HD := Lib.hid hdis
    have HLO2 := Lib.hid hlo
    have HF := Lib.hid hf
    clear L R hX hdis hlo hf
    by_cases hjn : j < n
    · obtain ⟨g, o, rfl, hx⟩ := HRD.out (by rw [HN.out]; omega)
      obtain ⟨x, hx0⟩ : ∃ x, l[j]? = some x := ⟨_, List.getElem?_eq_getElem (by rw [HN.out]; exact hjn)⟩
      have hop := (hx j x hx0).keep HF.out
      obtain ⟨k, v, h⟩ := x
      have q0 := hop.c0
      have q1 := hop.c1
      have q2 := hop.c2
      simp only at q0 q1 q2
      have d1 : decide ((j : Int) < (n : Int)) = true := by rw [decide_eq_true_eq]; omega
      clear hx hx0 hop
      have A2 := At.new wr 32 #[.int .i64 k, .int .i64 v, .int .i64 h]
      have HFA := Lib.hid ((Fr.refl No wr).alloc (.cells #[.int .i64 k, .int .i64 v, .int .i64 h] 32))
      have OFF : Hid (¬ SkOn b hb hs ns wr.heap.size) := Lib.hid fun h => absurd (HL.out.lt_size _ h) (Nat.lt_irrefl _)
      have LA := HL.out.keep HFA.out (fun _ _ h => h)
      have HP := Lib.hid (put_c b hb hs ns k v h _ LA (by omega))
      go_wp2_with fail
      by_cases h1 : h < 1
      · have d4 : decide (h < 1) = true := decide_eq_true h1
        refine HP.out.mono ?_
        rintro e w3 ⟨⟨ns', L3, on, hps⟩, f3⟩
        obtain ⟨rfl, rfl⟩ := hps.bad (.inl h1)
        have A3 := A2.keep f3 OFF.out
        have o2 := A3.cell 2
        simp at o2
        have HF3 := Lib.hid ((HF.out.trans HFA.out).own HLO2.out f3)
        have HL3 := Lib.hid L3
        have HR3 := Lib.hid ((HR.out.keep HFA.out (fun _ _ h => h)).keep f3 (fun z hz hz' => HD.out z hz' hz))
        have HX3 : Hid (∀ z, X z → W.heap.size ≤ z ∧ z < w3.heap.size) := Lib.hid fun z hz => ⟨(HX.out z hz).1, Nat.lt_of_lt_of_le (HX.out z hz).2 (Nat.le_trans HFA.out.size f3.size)⟩
        clear L3 on hps f3 A3 q0 q1 q2
        go_wp2_with fail
        go_roundw
        case rel => exact ⟨j + 1, ns', X, by simp, by omega, HL3.out, HR3.out, HX3.out, HD.out, by omega, HLO2.out, HF3.out⟩
        case measure => simp [intOf]; omega
      by_cases h2 : 12 < h
      · have d4 : decide (h < 1) = false := decide_eq_false h1
        have d5 : decide (12 < h) = true := decide_eq_true h2
        refine HP.out.mono ?_
        rintro e w3 ⟨⟨ns', L3, on, hps⟩, f3⟩
        obtain ⟨rfl, rfl⟩ := hps.bad (.inr h2)
        have A3 := A2.keep f3 OFF.out
        have o2 := A3.cell 2
        simp at o2
        have HF3 := Lib.hid ((HF.out.trans HFA.out).own HLO2.out f3)
        have HL3 := Lib.hid L3
        have HR3 := Lib.hid ((HR.out.keep HFA.out (fun _ _ h => h)).keep f3 (fun z hz hz' => HD.out z hz' hz))
        have HX3 : Hid (∀ z, X z → W.heap.size ≤ z ∧ z < w3.heap.size) := Lib.hid fun z hz => ⟨(HX.out z hz).1, Nat.lt_of_lt_of_le (HX.out z hz).2 (Nat.le_trans HFA.out.size f3.size)⟩
        clear L3 on hps f3 A3 q0 q1 q2
        go_wp2_with fail
        go_roundw
        case rel => exact ⟨j + 1, ns', X, by simp, by omega, HL3.out, HR3.out, HX3.out, HD.out, by omega, HLO2.out, HF3.out⟩
        case measure => simp [intOf]; omega
      have d4 : decide (h < 1) = false := decide_eq_false h1
      have d5 : decide (12 < h) = false := decide_eq_false h2
      refine HP.out.mono ?_
      rintro e w3 ⟨⟨ns', L3, on, hps⟩, f3⟩
      obtain ⟨rfl, hput⟩ := puts_ref LA (by omega) hps
      have hlen' := (hps.keys (by omega)).2.1
      have A3 := A2.keep f3 OFF.out
      have o0 := A3.cell 0
      have o1 := A3.cell 1
      have o2 := A3.cell 2
      simp at o0 o1 o2
      have HF3 := Lib.hid ((HF.out.trans HFA.out).own HLO2.out f3)
      have HX3 : Hid (∀ z, X z → W.heap.size ≤ z ∧ z < w3.heap.size) := Lib.hid fun z hz => ⟨(HX.out z hz).1, Nat.lt_of_lt_of_le (HX.out z hz).2 (Nat.le_trans HFA.out.size f3.size)⟩
      have HD3 : Hid (∀ z, SkOn b hb hs ns' z → ¬ X z) := Lib.hid fun z hz hz' => (on z hz).elim (fun h => HD.out z h hz') (fun h => absurd (HX.out z hz').2 (by have := HFA.out.size; omega))
      have HLO3 : Hid (∀ z, SkOn b hb hs ns' z → W.heap.size ≤ z) := Lib.hid fun z hz => (on z hz).elim (HLO2.out z) (fun h => Nat.le_trans (HF.out.trans HFA.out).size h)
      have R3 := (HR.out.keep HFA.out (fun _ _ h => h)).keep f3 (fun z hz hz' => HD.out z hz' hz)
      have HRP := refPut_c X w1.heap.size (ns.map prOf) k v h w3.drew (R3.keep ((Fr.refl No w3).drew) (fun _ _ h => h)) (by rw [List.length_map]; omega) (fun z hz => (HX3.out z hz).2)
      rw [hput] at HRP
      obtain ⟨F, hFF⟩ : ∃ F, freshL (ns.map prOf) k = F := ⟨_, rfl⟩
      rw [hFF] at HRP
      rw [hFF]
      have HRP := Lib.hid HRP
      have HL3 := Lib.hid L3
      have OFX : Hid (¬ X wr.heap.size) := Lib.hid fun h => absurd (HX.out _ h).2 (Nat.lt_irrefl _)
      obtain ⟨m, hmm⟩ : ∃ m, ns'.length = m := ⟨_, rfl⟩
      have HMM := Lib.hid hmm
      rw [hmm] at hlen'
      clear L3 on hps f3 A3 q0 q1 q2 hput R3 hFF hmm
      go_wp2_with fail
      refine wp_region_held_drew (S := (fun w' => w'.cell? ⟨wr.heap.size, 0, none⟩ = some (.int .i64 k) ∧ w'.cell? ⟨wr.heap.size, 1, none⟩ = some (.int .i64 v) ∧ w'.cell? ⟨wr.heap.size, 2, none⟩ = some (.int .i64 h))) (by kernel_rfl) ⟨o0, o1, o2⟩ (fun hHeld => ?_)
      refine take_drop (i := 0) (v := ?v0) rfl (by kernel_rfl) (by kernel_rfl) (by kernel_rfl) (fun _ _ _ h => h) (Or.inl ⟨by rfl, ?h0⟩) hHeld ?r0
      case h0 => (intro wS hSw; obtain ⟨s1, s2, s3⟩ := hSw; go_simp; all_goals (with_reducible rfl))
      simp only [Act.put, List.setIfInBounds_toArray, List.set_cons_zero, List.set_cons_succ]
      refine take_drop (i := 1) (v := ?v1) rfl (by kernel_rfl) (by kernel_rfl) (by kernel_rfl) (fun _ _ _ h => h) (Or.inl ⟨by rfl, ?h1⟩) hHeld ?r1
      case h1 => (intro wS hSw; obtain ⟨s1, s2, s3⟩ := hSw; go_simp; all_goals (with_reducible rfl))
      simp only [Act.put, List.setIfInBounds_toArray, List.set_cons_zero, List.set_cons_succ]
      refine take_drop (i := 2) (v := ?v2) rfl (by kernel_rfl) (by kernel_rfl) (by kernel_rfl) (fun _ _ _ h => h) (Or.inl ⟨by rfl, ?h2⟩) hHeld ?r2
      case h2 => (intro wS hSw; obtain ⟨s1, s2, s3⟩ := hSw; go_simp; all_goals (with_reducible rfl))
      simp only [Act.put, List.setIfInBounds_toArray, List.set_cons_zero, List.set_cons_succ]
      refine take_drop (i := 3) (v := ?v3) rfl (by kernel_rfl) (by kernel_rfl) (by kernel_rfl) (fun _ _ _ h => h) (Or.inl ⟨by rfl, ?h3⟩) hHeld ?r3
      case h3 => (intro wS hSw; obtain ⟨s1, s2, s3⟩ := hSw; go_simp; all_goals (with_reducible rfl))
      simp only [Act.put, List.setIfInBounds_toArray, List.set_cons_zero, List.set_cons_succ]
      refine take_drop (i := 4) (v := ?v4) rfl (by kernel_rfl) (by kernel_rfl) (by kernel_rfl) (fun _ _ _ h => h) (Or.inl ⟨by rfl, ?h4⟩) hHeld ?r4
      case h4 => (intro wS hSw; obtain ⟨s1, s2, s3⟩ := hSw; go_simp; all_goals (with_reducible rfl))
      simp only [Act.put, List.setIfInBounds_toArray, List.set_cons_zero, List.set_cons_succ]
      refine take_drop (i := 5) (v := ?v5) rfl (by kernel_rfl) (by kernel_rfl) (by kernel_rfl) (fun _ _ _ h => h) (Or.inl ⟨by rfl, ?h5⟩) hHeld ?r5
      case h5 => (intro wS hSw; obtain ⟨s1, s2, s3⟩ := hSw; go_simp; all_goals (with_reducible rfl))
      simp only [Act.put, List.setIfInBounds_toArray, List.set_cons_zero, List.set_cons_succ]
      refine take_drop (i := 6) (v := ?v6) rfl (by kernel_rfl) (by kernel_rfl) (by kernel_rfl) (fun _ _ _ h => h) (Or.inl ⟨by rfl, ?h6⟩) hHeld ?r6
      case h6 => (intro wS hSw; obtain ⟨s1, s2, s3⟩ := hSw; go_simp; all_goals (with_reducible rfl))
      simp only [Act.put, List.setIfInBounds_toArray, List.set_cons_zero, List.set_cons_succ]
      refine take_drop (i := 7) (v := ?v7) rfl (by kernel_rfl) (by kernel_rfl) (by kernel_rfl) (fun _ _ _ h => h) (Or.inl ⟨by rfl, ?h7⟩) hHeld ?r7
      case h7 => (intro wS hSw; obtain ⟨s1, s2, s3⟩ := hSw; go_simp; all_goals (with_reducible rfl))
      simp only [Act.put, List.setIfInBounds_toArray, List.set_cons_zero, List.set_cons_succ]
      refine take_drop (i := 8) (v := ?v8) rfl (by kernel_rfl) (by kernel_rfl) (by kernel_rfl) (fun _ _ _ h => h) (Or.inl ⟨by rfl, ?h8⟩) hHeld ?r8
      case h8 => (intro wS hSw; obtain ⟨s1, s2, s3⟩ := hSw; go_simp; all_goals (with_reducible rfl))
      simp only [Act.put, List.setIfInBounds_toArray, List.set_cons_zero, List.set_cons_succ]
      refine take_drop (i := 9) (v := ?v9) rfl (by kernel_rfl) (by kernel_rfl) (by kernel_rfl) (fun _ _ _ h => h) (Or.inl ⟨by rfl, ?h9⟩) hHeld ?r9
      case h9 => (intro wS hSw; obtain ⟨s1, s2, s3⟩ := hSw; go_simp; all_goals (with_reducible rfl))
      simp only [Act.put, List.setIfInBounds_toArray, List.set_cons_zero, List.set_cons_succ]
      refine take_drop (i := 10) (v := ?v10) rfl (by kernel_rfl) (by kernel_rfl) (by kernel_rfl) (fun _ _ _ h => h) (Or.inl ⟨by rfl, ?h10⟩) hHeld ?r10
      case h10 => (intro wS hSw; obtain ⟨s1, s2, s3⟩ := hSw; go_simp; all_goals (with_reducible rfl))
      simp only [Act.put, List.setIfInBounds_toArray, List.set_cons_zero, List.set_cons_succ]
      refine wpAnyH_ready (rs := [11]) (by kernel_rfl) (by simp) ?_
      refine do_drop (i := 11) rfl (fun K hK => ?_) AllReadyH.nil
      go_simp
      refine HRP.out.mono ?_
      rintro e w4 ⟨rfl, R4, f4⟩
      obtain ⟨la, lc, c0, _⟩ := R4.cells
      rw [List.length_map, HMM.out] at c0
      have p0 := f4.cell (p := ⟨wr.heap.size, 0, none⟩) (v := .int .i64 k) o0 OFX.out
      have p1 := f4.cell (p := ⟨wr.heap.size, 1, none⟩) (v := .int .i64 v) o1 OFX.out
      have p2 := f4.cell (p := ⟨wr.heap.size, 2, none⟩) (v := .int .i64 h) o2 OFX.out
      have HR4 := Lib.hid R4
      have HF4 := Lib.hid f4
      have HL4 := Lib.hid ((HL3.out.keep ((Fr.refl No w3).drew) (fun _ _ h => h)).keep f4 (fun z hz hz' => HD3.out z hz hz'))
      clear R4 f4
      refine hK.out _ _ ⟨p0, p1, p2⟩ ?_
      clear hK K
      try simp only [Act.put, List.setIfInBounds_toArray, List.set_cons_zero, List.set_cons_succ]
      refine wpAnyH_strong (S' := (fun w' => (w'.cell? ⟨wr.heap.size, 0, none⟩ = some (.int .i64 k) ∧ w'.cell? ⟨wr.heap.size, 1, none⟩ = some (.int .i64 v) ∧ w'.cell? ⟨wr.heap.size, 2, none⟩ = some (.int .i64 h)) ∧ w'.cell? ⟨w1.heap.size, 0, none⟩ = some (.slice la m lc))) (fun _ h => h.1) _ _ _ _ ?_
      have hS2 : (w4.cell? ⟨wr.heap.size, 0, none⟩ = some (.int .i64 k) ∧ w4.cell? ⟨wr.heap.size, 1, none⟩ = some (.int .i64 v) ∧ w4.cell? ⟨wr.heap.size, 2, none⟩ = some (.int .i64 h)) ∧ w4.cell? ⟨w1.heap.size, 0, none⟩ = some (.slice la m lc) := ⟨⟨p0, p1, p2⟩, c0⟩
      clear hHeld
      refine take_drop (i := 12) (v := ?v12) rfl (by kernel_rfl) (by kernel_rfl) (by kernel_rfl) (fun _ _ _ h => h) (Or.inl ⟨by rfl, ?h12⟩) hS2 ?r12
      case h12 => (intro wS hSw; obtain ⟨⟨s1, s2, s3⟩, s4⟩ := hSw; go_simp; all_goals (with_reducible rfl))
      simp only [Act.put, List.setIfInBounds_toArray, List.set_cons_zero, List.set_cons_succ]
      refine take_drop (i := 13) (v := ?v13) rfl (by kernel_rfl) (by kernel_rfl) (by kernel_rfl) (fun _ _ _ h => h) (Or.inl ⟨by rfl, ?h13⟩) hS2 ?r13
      case h13 => (intro wS hSw; obtain ⟨⟨s1, s2, s3⟩, s4⟩ := hSw; go_simp; all_goals (with_reducible rfl))
      simp only [Act.put, List.setIfInBounds_toArray, List.set_cons_zero, List.set_cons_succ]
      refine take_drop (i := 14) (v := ?v14) rfl (by kernel_rfl) (by kernel_rfl) (by kernel_rfl) (fun _ _ _ h => h) (Or.inl ⟨by rfl, ?h14⟩) hS2 ?r14
      case h14 => (intro wS hSw; obtain ⟨⟨s1, s2, s3⟩, s4⟩ := hSw; go_simp; all_goals (with_reducible rfl))
      simp only [Act.put, List.setIfInBounds_toArray, List.set_cons_zero, List.set_cons_succ]
      refine take_drop (i := 15) (v := ?v15) rfl (by kernel_rfl) (by kernel_rfl) (by kernel_rfl) (fun _ _ _ h => h) (Or.inl ⟨by rfl, ?h15⟩) hS2 ?r15
      case h15 => (intro wS hSw; obtain ⟨⟨s1, s2, s3⟩, s4⟩ := hSw; go_simp; all_goals (with_reducible rfl))
      simp only [Act.put, List.setIfInBounds_toArray, List.set_cons_zero, List.set_cons_succ]
      refine take_drop (i := 17) (v := ?v17) rfl (by kernel_rfl) (by kernel_rfl) (by kernel_rfl) (fun _ _ _ h => h) (Or.inl ⟨by rfl, ?h17⟩) hS2 ?r17
      case h17 => (intro wS hSw; obtain ⟨⟨s1, s2, s3⟩, s4⟩ := hSw; go_simp; all_goals (with_reducible rfl))
      simp only [Act.put, List.setIfInBounds_toArray, List.set_cons_zero, List.set_cons_succ]
      refine take_drop (i := 18) (v := ?v18) rfl (by kernel_rfl) (by kernel_rfl) (by kernel_rfl) (fun _ _ _ h => h) (Or.inl ⟨by rfl, ?h18⟩) hS2 ?r18
      case h18 => (intro wS hSw; obtain ⟨⟨s1, s2, s3⟩, s4⟩ := hSw; go_simp; all_goals (with_reducible rfl))
      simp only [Act.put, List.setIfInBounds_toArray, List.set_cons_zero, List.set_cons_succ]
      refine take_drop (i := 19) (v := ?v19) rfl (by kernel_rfl) (by kernel_rfl) (by kernel_rfl) (fun _ _ _ h => h) (Or.inl ⟨by rfl, ?h19⟩) hS2 ?r19
      case h19 => (intro wS hSw; obtain ⟨⟨s1, s2, s3⟩, s4⟩ := hSw; go_simp; all_goals (with_reducible rfl))
      simp only [Act.put, List.setIfInBounds_toArray, List.set_cons_zero, List.set_cons_succ]
      refine take_drop (i := 20) (v := ?v20) rfl (by kernel_rfl) (by kernel_rfl) (by kernel_rfl) (fun _ _ _ h => h) (Or.inl ⟨by rfl, ?h20⟩) hS2 ?r20
      case h20 => (intro wS hSw; obtain ⟨⟨s1, s2, s3⟩, s4⟩ := hSw; go_simp; all_goals (with_reducible rfl))
      simp only [Act.put, List.setIfInBounds_toArray, List.set_cons_zero, List.set_cons_succ]
      refine take_drop (i := 21) (v := ?v21) rfl (by kernel_rfl) (by kernel_rfl) (by kernel_rfl) (fun _ _ _ h => h) (Or.inl ⟨by rfl, ?h21⟩) hS2 ?r21
      case h21 => (intro wS hSw; obtain ⟨⟨s1, s2, s3⟩, s4⟩ := hSw; go_simp; all_goals (with_reducible rfl))
      simp only [Act.put, List.setIfInBounds_toArray, List.set_cons_zero, List.set_cons_succ]
      refine wpAnyH_ready (rs := [16]) (by kernel_rfl) (by simp) ?_
      refine do_drop (i := 16) rfl (fun K hK => ?_) AllReadyH.nil
      go_simp
      refine (len_c HL4.out).mono ?_
      rw [HMM.out]
      rintro e w5 ⟨rfl, rfl⟩
      refine hK.out _ _ hS2 ?_
      clear hK K
      try simp only [Act.put, List.setIfInBounds_toArray, List.set_cons_zero, List.set_cons_succ]
      refine take_drop (i := 22) (v := ?v22) rfl (by kernel_rfl) (by kernel_rfl) (by kernel_rfl) (fun _ _ _ h => h) (Or.inl ⟨by rfl, ?h22⟩) hS2 ?r22
      case h22 => (intro wS hSw; obtain ⟨⟨s1, s2, s3⟩, s4⟩ := hSw; go_simp; all_goals (with_reducible rfl))
      simp only [Act.put, List.setIfInBounds_toArray, List.set_cons_zero, List.set_cons_succ]
      refine take_drop (i := 23) (v := ?v23) rfl (by kernel_rfl) (by kernel_rfl) (by kernel_rfl) (fun _ _ _ h => h) (Or.inl ⟨by rfl, ?h23⟩) hS2 ?r23
      case h23 => (intro wS hSw; obtain ⟨⟨s1, s2, s3⟩, s4⟩ := hSw; go_simp; all_goals (with_reducible rfl))
      simp only [Act.put, List.setIfInBounds_toArray, List.set_cons_zero, List.set_cons_succ]
      refine wpAnyH_done (by kernel_rfl) ?_ _
      go_wp2_with fail
      go_roundw
      case rel => exact ⟨j + 1, ns', Gr X w3.drew w4, by simp, by omega, HL4.out, HR4.out, fun z hz => hz.elim (fun h => ⟨(HX3.out z h).1, Nat.lt_of_lt_of_le (HX3.out z h).2 HF4.out.size⟩) (fun h => ⟨Nat.le_trans HF3.out.size h.1, h.2⟩), fun z hz hz' => hz'.elim (fun h => HD3.out z hz h) (fun h => absurd (HL3.out.lt_size z hz) (Nat.not_lt.2 h.1)), by rw [HMM.out]; omega, HLO3.out, (HF3.out.drew).then_ HF4.out (fun z hz hx => absurd (HX3.out z hx).1 (by omega))⟩
      case measure => simp [intOf]; omega
    · obtain rfl : j = n := by omega
      have d1 : decide ((j : Int) < (j : Int)) = false := by simp
      have HM := Lib.hid HF.out
      obtain ⟨wA, rfl⟩ : ∃ x, x = wr := ⟨_, rfl⟩
      go_wp2_with fail
      clear d1
      go_loopw [1, 116] (fun u i wq => ∃ (t : Nat) (a2 : Option Addr) (c2 : Nat) (q : List Int), i = .int .i64 t ∧ t ≤ j ∧ u = .slice a2 (n' + t) c2 ∧ q.length = n' + t ∧ Ints wq a2 q ∧ n' + t ≤ c2 ∧ c2 ≤ maxLen ∧ Fr No wA wq) (fun _ i _ => j - (intOf i).toNat)
      case atStart => exact ⟨0, a', cap', l', rfl, Nat.zero_le _, rfl, HN'.out, HRD'.out.keep HF.out, hc', hm', Fr.refl _ _⟩
      case round =>
        obtain ⟨t, a2, c2, q, rfl, ht, rfl, hq, hI, hqc, hcm, hfq⟩ := hrel
        have HFQ := Lib.hid hfq
        have HQ := Lib.hid hq
        have HI := Lib.hid hI
        unfold maxLen at hcm
        clear hfq hI hq
        by_cases htj : t < j
        · obtain ⟨g, o, rfl, hx⟩ := HRD.out (by rw [HN.out]; omega)
          obtain ⟨x, hx0⟩ : ∃ x, l[t]? = some x := ⟨_, List.getElem?_eq_getElem (by rw [HN.out]; exact htj)⟩
          have hop := (hx t x hx0).keep (HF.out.trans HFQ.out)
          obtain ⟨k, v, h⟩ := x
          have q0 := hop.c0
          have q1 := hop.c1
          have q2 := hop.c2
          have wk := hop.wk
          simp only at q0 q1 q2 wk
          have g1 : decide ((t : Int) < (j : Int)) = true := by rw [decide_eq_true_eq]; omega
          have fA := ((Fr.refl No wr).alloc (.cells #[.int .i64 k, .int .i64 v, .int .i64 h] 32)).drew
          have A2 : (wr.alloc (.cells #[.int .i64 k, .int .i64 v, .int .i64 h] 32)).drew.cell? ⟨wr.heap.size, 0, none⟩ = some (.int .i64 k) := (At.new wr 32 #[.int .i64 k, .int .i64 v, .int .i64 h]).cell 0
          obtain ⟨a3, c3, w5, hrun, hI5, hle5, hmx5, hf5⟩ := push_ints (wr.alloc (.cells #[.int .i64 k, .int .i64 v, .int .i64 h] 32)).drew a2 q (HI.out.keep fA) (by rw [HQ.out]; omega) k wk
          rw [HQ.out] at hrun hle5
          obtain ⟨s, hs'⟩ : ∃ s, n' + t = s := ⟨_, rfl⟩
          rw [hs'] at hrun hle5 hqc
          rw [hs']
          have HS := Lib.hid hs'
          rw [show (wr.alloc (.cells #[.int .i64 k, .int .i64 v, .int .i64 h] 32)).drew.heap.size = wr.heap.size + 1 by simp] at hrun
          have HRUN : Hid ((Builtin.append_ #[23, 23] 23 #[.slice a2 s s, .slice (some ⟨wr.heap.size + 1, 0, none⟩) 1 1]).run Try.prog ((wr.alloc (.cells #[.int .i64 k, .int .i64 v, .int .i64 h] 32)).alloc (.cells #[.int .i64 k] 3)).drew = .ok (.slice a3 (s + 1) c3) w5) := Lib.hid hrun
          have HF5 := Lib.hid ((HFQ.out.trans fA).trans hf5)
          have HI5 := Lib.hid hI5
          have HLE5 := Lib.hid hle5
          have HMX5 := Lib.hid hmx5
          have c4 := ((Fr.refl No (wr.alloc (.cells #[.int .i64 k, .int .i64 v, .int .i64 h] 32)).drew).alloc (.cells #[.int .i64 k] 3)).cell (p := ⟨wr.heap.size, 0, none⟩) (v := .int .i64 k) A2 (fun h => h)
          have c5 := hf5.cell (p := ⟨wr.heap.size, 0, none⟩) (v := .int .i64 k) A2 (fun h => h)
          have hsl := fun w => cut_full a2 s c2 hqc w
          clear hx hx0 hop hrun hI5 hle5 hmx5 hf5 fA hs' wk
          go_wp2_with fail
          refine wp_region_held_drew (S := fun w' => w'.cell? ⟨wr.heap.size, 0, none⟩ = some (.int .i64 k)) (by kernel_rfl) A2 (fun hHeld => ?_)
          refine take_drop (i := 0) (v := ?v0b) rfl (by kernel_rfl) (by kernel_rfl) (by kernel_rfl) (fun _ _ _ h => h) (Or.inl ⟨by rfl, ?h0b⟩) A2 ?r0b
          case h0b => (intro wS hSw; go_simp; all_goals (with_reducible rfl))
          simp only [Act.put, List.setIfInBounds_toArray, List.set_cons_zero, List.set_cons_succ]
          refine take_drop (i := 1) (v := ?v1b) rfl (by kernel_rfl) (by kernel_rfl) (by kernel_rfl) (fun _ _ _ h => h) (Or.inl ⟨by rfl, ?h1b⟩) A2 ?r1b
          case h1b => (intro wS hSw; go_simp; all_goals (with_reducible rfl))
          simp only [Act.put, List.setIfInBounds_toArray, List.set_cons_zero, List.set_cons_succ]
          refine take_drop (i := 2) (v := ?v2b) rfl (by kernel_rfl) (by kernel_rfl) (by kernel_rfl) (fun _ _ _ h => h) (Or.inl ⟨by rfl, ?h2b⟩) A2 ?r2b
          case h2b => (intro wS hSw; go_simp; all_goals (with_reducible rfl))
          simp only [Act.put, List.setIfInBounds_toArray, List.set_cons_zero, List.set_cons_succ]
          refine take_drop (i := 3) (v := ?v3b) rfl (by kernel_rfl) (by kernel_rfl) (by kernel_rfl) (fun _ _ _ h => h) (Or.inl ⟨by rfl, ?h3b⟩) A2 ?r3b
          case h3b => (intro wS hSw; go_simp; all_goals (with_reducible rfl))
          simp only [Act.put, List.setIfInBounds_toArray, List.set_cons_zero, List.set_cons_succ]
          refine take_drop (i := 4) (v := ?v4b) rfl (by kernel_rfl) (by kernel_rfl) (by kernel_rfl) (fun _ _ _ h => h) (Or.inl ⟨by rfl, ?h4b⟩) A2 ?r4b
          case h4b => (intro wS hSw; go_simp; all_goals (with_reducible rfl))
          simp only [Act.put, List.setIfInBounds_toArray, List.set_cons_zero, List.set_cons_succ]
          refine take_drop (i := 5) (v := ?v5b) rfl (by kernel_rfl) (by kernel_rfl) (by kernel_rfl) (fun _ _ _ h => h) (Or.inl ⟨by rfl, ?h5b⟩) A2 ?r5b
          case h5b => (intro wS hSw; go_simp; all_goals (with_reducible rfl))
          simp only [Act.put, List.setIfInBounds_toArray, List.set_cons_zero, List.set_cons_succ]
          refine take_drop (i := 6) (v := ?v6b) rfl (by kernel_rfl) (by kernel_rfl) (by kernel_rfl) (fun _ _ _ h => h) (Or.inl ⟨by rfl, ?h6b⟩) A2 ?r6b
          case h6b => (intro wS hSw; go_simp; all_goals (with_reducible rfl))
          simp only [Act.put, List.setIfInBounds_toArray, List.set_cons_zero, List.set_cons_succ]
          refine take_drop (i := 7) (v := ?v7b) rfl (by kernel_rfl) (by kernel_rfl) (by kernel_rfl) (fun _ _ _ h => h) (Or.inl ⟨by rfl, ?h7b⟩) A2 ?r7b
          case h7b => (intro wS hSw; go_simp; all_goals (with_reducible rfl))
          simp only [Act.put, List.setIfInBounds_toArray, List.set_cons_zero, List.set_cons_succ]
          refine wpAnyH_ready (rs := [8]) (by kernel_rfl) (by simp) ?_
          refine do_drop (i := 8) rfl (fun K hK => ?_) AllReadyH.nil
          go_simp
          refine hK.out _ _ c4 ?_
          clear hK K
          try simp only [Act.put, List.setIfInBounds_toArray, List.set_cons_zero, List.set_cons_succ]
          refine wpAnyH_ready (rs := [9]) (by kernel_rfl) (by simp) ?_
          refine do_drop (i := 9) rfl (fun K hK => ?_) AllReadyH.nil
          refine step_append_run rfl (.tmp 125) (.tmp 128) 23 rfl rfl rfl HRUN.out ?_
          refine hK.out _ _ c5 ?_
          clear hK K
          try simp only [Act.put, List.setIfInBounds_toArray, List.set_cons_zero, List.set_cons_succ]
          refine take_drop (i := 10) (v := ?v10b) rfl (by kernel_rfl) (by kernel_rfl) (by kernel_rfl) (fun _ _ _ h => h) (Or.inl ⟨by rfl, ?h10b⟩) c5 ?r10b
          case h10b => (intro wS hSw; go_simp; all_goals (with_reducible rfl))
          simp only [Act.put, List.setIfInBounds_toArray, List.set_cons_zero, List.set_cons_succ]
          refine wpAnyH_done (by kernel_rfl) ?_ _
          go_wp2_with fail
          go_roundw
          case rel =>
            have hsz := HS.out
            have hle := HLE5.out
            exact ⟨t + 1, a3, c3, q ++ [k], by simp, by omega, by rw [show n' + (t + 1) = s + 1 by omega], by rw [List.length_append, HQ.out]; rfl, HI5.out, by omega, HMX5.out, HF5.out⟩
          case measure => simp [intOf]; omega
        · obtain rfl : t = j := by omega
          have g1 : decide ((t : Int) < (t : Int)) = false := by simp
          obtain ⟨m, hmm⟩ : ∃ m, n' + t = m := ⟨_, rfl⟩
          have hql := HQ.out
          rw [hmm] at hqc hql
          rw [hmm]
          have HQL := Lib.hid hql
          have HL3 := Lib.hid (HL.out.keep HFQ.out (fun _ _ h => h))
          have HR3 := Lib.hid (HR.out.keep HFQ.out (fun _ _ h => h))
          have HF3 := Lib.hid (HM.out.trans HFQ.out)
          have hmb : m ≤ 110 := by omega
          obtain ⟨wB, rfl⟩ : ∃ x, x = wr := ⟨_, rfl⟩
          clear hql hmm
          go_wp2_with fail
          clear g1
          go_loopw [133] (fun i wq => ∃ s : Nat, i = .int .i64 s ∧ s ≤ m ∧ Fr No wB wq) (fun i _ => m - (intOf i).toNat)
          case atStart => exact ⟨0, rfl, Nat.zero_le _, Fr.refl _ _⟩
          case round =>
            obtain ⟨s, rfl, hs3, hfq⟩ := hrel
            have HFS := Lib.hid hfq
            have HLr := Lib.hid (HL3.out.keep hfq (fun _ _ h => h))
            have HRr := Lib.hid (HR3.out.keep hfq (fun _ _ h => h))
            clear hfq
            by_cases hsm : s < m
            · have g1 : decide ((s : Int) < (m : Int)) = true := by rw [decide_eq_true_eq]; omega
              obtain ⟨g, o, rfl, hx⟩ := HI.out (by rw [HQL.out]; omega)
              obtain ⟨k, hk0⟩ : ∃ x, q[s]? = some x := ⟨_, List.getElem?_eq_getElem (by rw [HQL.out]; exact hsm)⟩
              have q0 := HFS.out.cell (hx s k hk0).1 (fun h => h)
              have HFI := Lib.hid (refFind_c X w1.heap.size (ns.map prOf) k wr HRr.out)
              have HGE := Lib.hid (get_c b hb hs ns k wr HLr.out)
              clear hx hk0
              rcases here_find HLr.out.srt k with ⟨h1, h2⟩ | ⟨p, hp, h1, h2⟩
              · rw [h1, show getR (none : Option N2) = .tuple #[.int .i64 0, .bool false] from rfl] at HGE
                rw [h2] at HFI
                have HG := Lib.hid h1
                have d2 : decide ((0 : Int) ≤ -1) = false := by decide
                clear h1 h2
                go_wp2_with fail
                refine (show Calls _ _ _ _ _ from HFI.out).mono ?_
                rintro e w6 ⟨rfl, rfl⟩
                go_wp2_with fail
                refine (show Calls _ _ _ _ _ from HGE.out).mono ?_
                rintro e w7 ⟨rfl, f7⟩
                have HF7 := Lib.hid (HFS.out.trans f7)
                have HL7 := Lib.hid (HLr.out.keep f7 (fun _ _ h => h))
                have HR7 := Lib.hid (HRr.out.keep f7 (fun _ _ h => h))
                have HHE := height_c b hb hs ns k w7 HL7.out
                rw [HG.out, show heightR (none : Option N2) = .int .i64 0 from rfl] at HHE
                have HHE := Lib.hid HHE
                clear f7
                go_wp2_with fail
                refine HHE.out.mono ?_
                rintro e w8 ⟨rfl, f8⟩
                have HF8 := Lib.hid (HF7.out.trans f8)
                have HL8 := Lib.hid (HL7.out.keep f8 (fun _ _ h => h))
                have HR8 := Lib.hid (HR7.out.keep f8 (fun _ _ h => h))
                clear f8
                have C9 := ceilT_c b hb hs ns k w8 HL8.out
                rw [tell_parts] at C9
                go_wp2_with fail
                refine C9.mono ?_
                rintro e w9 ⟨rfl, f9⟩
                have HF9 := Lib.hid (HF8.out.trans f9)
                have HL9 := Lib.hid (HL8.out.keep f9 (fun _ _ h => h))
                have HR9 := Lib.hid (HR8.out.keep f9 (fun _ _ h => h))
                clear f9
                have C10 := floor_c b hb hs ns k w9 HL9.out
                rw [tell_parts] at C10
                go_wp2_with fail
                refine C10.mono ?_
                rintro e w10 ⟨rfl, f10⟩
                have HF10 := Lib.hid (HF9.out.trans f10)
                have HL10 := Lib.hid (HL9.out.keep f10 (fun _ _ h => h))
                have HR10 := Lib.hid (HR9.out.keep f10 (fun _ _ h => h))
                clear f10
                have C11 := next_c b hb hs ns k w10 HL10.out
                rw [tell_parts] at C11
                go_wp2_with fail
                refine C11.mono ?_
                rintro e w11 ⟨rfl, f11⟩
                have HF11 := Lib.hid (HF10.out.trans f11)
                have HL11 := Lib.hid (HL10.out.keep f11 (fun _ _ h => h))
                have HR11 := Lib.hid (HR10.out.keep f11 (fun _ _ h => h))
                clear f11
                have C12 := prev_c b hb hs ns k w11 HL11.out
                rw [tell_parts] at C12
                go_wp2_with fail
                refine C12.mono ?_
                rintro e w12 ⟨rfl, f12⟩
                have HF12 := Lib.hid (HF11.out.trans f12)
                have HL12 := Lib.hid (HL11.out.keep f12 (fun _ _ h => h))
                have HR12 := Lib.hid (HR11.out.keep f12 (fun _ _ h => h))
                clear f12
                go_wp2_with fail
                refine (refAbove_c X w1.heap.size (ns.map prOf) k true w12 HR12.out).mono ?_
                rintro e w13 ⟨rfl, rfl⟩
                go_wp2_with fail
                refine (found_c X w1.heap.size (here_ceil HL12.out.srt k) w12 HR12.out).mono ?_
                rintro e w13 ⟨rfl, rfl⟩
                go_wp2_with fail
                refine (refBelow_c X w1.heap.size (ns.map prOf) k true w12 HR12.out).mono ?_
                rintro e w13 ⟨rfl, rfl⟩
                go_wp2_with fail
                refine (found_c X w1.heap.size (here_floor HL12.out.srt k) w12 HR12.out).mono ?_
                rintro e w13 ⟨rfl, rfl⟩
                go_wp2_with fail
                refine (refAbove_c X w1.heap.size (ns.map prOf) k false w12 HR12.out).mono ?_
                rintro e w13 ⟨rfl, rfl⟩
                go_wp2_with fail
                refine (found_c X w1.heap.size (here_next HL12.out.srt k) w12 HR12.out).mono ?_
                rintro e w13 ⟨rfl, rfl⟩
                go_wp2_with fail
                refine (refBelow_c X w1.heap.size (ns.map prOf) k false w12 HR12.out).mono ?_
                rintro e w13 ⟨rfl, rfl⟩
                go_wp2_with fail
                refine (found_c X w1.heap.size (here_prev HL12.out.srt k) w12 HR12.out).mono ?_
                rintro e w13 ⟨rfl, rfl⟩
                go_wp2_with fail
                go_roundw
                case rel => exact ⟨s + 1, by simp, by omega, HF12.out⟩
                case measure => simp [intOf]; omega
              · rw [h2, show getR (some ns[p]) = .tuple #[.int .i64 (ns[p]).v, .bool true] from rfl] at HGE
                rw [h1] at HFI
                have HG := Lib.hid h2
                have d2 : decide ((0 : Int) ≤ (p : Int)) = true := by rw [decide_eq_true_eq]; omega
                have HPV : Hid (∀ W', Fr No wB W' → ∃ la lc, W'.cell? ⟨w1.heap.size, 0, none⟩ = some (.slice (some ⟨la, 0, none⟩) ns.length lc) ∧ W'.cell? ⟨la, p * 3 + 1, none⟩ = some (.int .i64 (ns[p]).v) ∧ W'.cell? ⟨la, p * 3 + 2, none⟩ = some (.int .i64 ((ns[p]).h : Int))) := Lib.hid fun W' f => by
                  obtain ⟨la, lc, c0, _, _, _, hcells⟩ := (HR3.out.keep f (fun _ _ h => h)).cells
                  obtain ⟨g2, _, _, rfl, hx⟩ := hcells (by rw [List.length_map]; omega)
                  obtain ⟨_, p1, p2, _⟩ := hx p (by rw [List.length_map]; exact hp)
                  rw [getD_map_prOf ns p hp] at p1 p2
                  rw [List.length_map] at c0
                  exact ⟨g2, lc, c0, p1, p2⟩
                obtain ⟨pv, hpv⟩ : ∃ z, (ns[p]).v = z := ⟨_, rfl⟩
                obtain ⟨ph, hph⟩ : ∃ z, (ns[p]).h = z := ⟨_, rfl⟩
                obtain ⟨n3, hn3⟩ : ∃ z, ns.length = z := ⟨_, rfl⟩
                have hpn : p < n3 := by omega
                have hn3b : n3 ≤ 80 := by omega
                rw [hpv] at HPV HGE
                rw [hph, hn3] at HPV
                have HPH := Lib.hid hph
                have d7 : (pv == pv) = true := by simp
                have d8 : ((ph : Int) == (ph : Int)) = true := by simp
                clear h1 h2 hpv hph hn3
                go_wp2_with fail
                refine (show Calls _ _ _ _ _ from HFI.out).mono ?_
                rintro e w6 ⟨rfl, rfl⟩
                go_wp2_with fail
                refine (show Calls _ _ _ _ _ from HGE.out).mono ?_
                rintro e w7 ⟨rfl, f7⟩
                have HF7 := Lib.hid (HFS.out.trans f7)
                have HL7 := Lib.hid (HLr.out.keep f7 (fun _ _ h => h))
                have HR7 := Lib.hid (HRr.out.keep f7 (fun _ _ h => h))
                have HHE := height_c b hb hs ns k w7 HL7.out
                obtain ⟨la, lc, c0, p1, p2⟩ := HPV.out w7 HF7.out
                rw [HG.out, show heightR (some ns[p]) = .int .i64 ((ns[p]).h : Int) from rfl, HPH.out] at HHE
                have HHE := Lib.hid HHE
                clear f7
                go_wp2_with fail
                refine HHE.out.mono ?_
                rintro e w8 ⟨rfl, f8⟩
                have HF8 := Lib.hid (HF7.out.trans f8)
                have HL8 := Lib.hid (HL7.out.keep f8 (fun _ _ h => h))
                have HR8 := Lib.hid (HR7.out.keep f8 (fun _ _ h => h))
                clear f8
                clear c0 p1 p2
                have C9 := ceilT_c b hb hs ns k w8 HL8.out
                rw [tell_parts] at C9
                go_wp2_with fail
                refine C9.mono ?_
                rintro e w9 ⟨rfl, f9⟩
                have HF9 := Lib.hid (HF8.out.trans f9)
                have HL9 := Lib.hid (HL8.out.keep f9 (fun _ _ h => h))
                have HR9 := Lib.hid (HR8.out.keep f9 (fun _ _ h => h))
                clear f9
                have C10 := floor_c b hb hs ns k w9 HL9.out
                rw [tell_parts] at C10
                go_wp2_with fail
                refine C10.mono ?_
                rintro e w10 ⟨rfl, f10⟩
                have HF10 := Lib.hid (HF9.out.trans f10)
                have HL10 := Lib.hid (HL9.out.keep f10 (fun _ _ h => h))
                have HR10 := Lib.hid (HR9.out.keep f10 (fun _ _ h => h))
                clear f10
                have C11 := next_c b hb hs ns k w10 HL10.out
                rw [tell_parts] at C11
                go_wp2_with fail
                refine C11.mono ?_
                rintro e w11 ⟨rfl, f11⟩
                have HF11 := Lib.hid (HF10.out.trans f11)
                have HL11 := Lib.hid (HL10.out.keep f11 (fun _ _ h => h))
                have HR11 := Lib.hid (HR10.out.keep f11 (fun _ _ h => h))
                clear f11
                have C12 := prev_c b hb hs ns k w11 HL11.out
                rw [tell_parts] at C12
                go_wp2_with fail
                refine C12.mono ?_
                rintro e w12 ⟨rfl, f12⟩
                have HF12 := Lib.hid (HF11.out.trans f12)
                have HL12 := Lib.hid (HL11.out.keep f12 (fun _ _ h => h))
                have HR12 := Lib.hid (HR11.out.keep f12 (fun _ _ h => h))
                clear f12
                go_wp2_with fail
                refine (refAbove_c X w1.heap.size (ns.map prOf) k true w12 HR12.out).mono ?_
                rintro e w13 ⟨rfl, rfl⟩
                go_wp2_with fail
                refine (found_c X w1.heap.size (here_ceil HL12.out.srt k) w12 HR12.out).mono ?_
                rintro e w13 ⟨rfl, rfl⟩
                go_wp2_with fail
                refine (refBelow_c X w1.heap.size (ns.map prOf) k true w12 HR12.out).mono ?_
                rintro e w13 ⟨rfl, rfl⟩
                go_wp2_with fail
                refine (found_c X w1.heap.size (here_floor HL12.out.srt k) w12 HR12.out).mono ?_
                rintro e w13 ⟨rfl, rfl⟩
                go_wp2_with fail
                refine (refAbove_c X w1.heap.size (ns.map prOf) k false w12 HR12.out).mono ?_
                rintro e w13 ⟨rfl, rfl⟩
                go_wp2_with fail
                refine (found_c X w1.heap.size (here_next HL12.out.srt k) w12 HR12.out).mono ?_
                rintro e w13 ⟨rfl, rfl⟩
                go_wp2_with fail
                refine (refBelow_c X w1.heap.size (ns.map prOf) k false w12 HR12.out).mono ?_
                rintro e w13 ⟨rfl, rfl⟩
                go_wp2_with fail
                refine (found_c X w1.heap.size (here_prev HL12.out.srt k) w12 HR12.out).mono ?_
                rintro e w13 ⟨rfl, rfl⟩
                go_wp2_with fail
                go_roundw
                case rel => exact ⟨s + 1, by simp, by omega, HF12.out⟩
                case measure => simp [intOf]; omega
            · obtain rfl : s = m := by omega
              have g1 : decide ((s : Int) < (s : Int)) = false := by simp
              have C7 := first_c b hb hs ns wr HLr.out
              rw [tell_parts] at C7
              go_wp2_with fail
              refine C7.mono ?_
              rintro e w7 ⟨rfl, f7⟩
              have HF7 := Lib.hid (HFS.out.trans f7)
              have HL7 := Lib.hid (HLr.out.keep f7 (fun _ _ h => h))
              have HR7 := Lib.hid (HRr.out.keep f7 (fun _ _ h => h))
              clear f7
              have C8 := last_c b hb hs ns w7 HL7.out
              rw [tell_parts] at C8
              go_wp2_with fail
              refine C8.mono ?_
              rintro e w8 ⟨rfl, f8⟩
              have HF8 := Lib.hid (HF7.out.trans f8)
              have HL8 := Lib.hid (HL7.out.keep f8 (fun _ _ h => h))
              have HR8 := Lib.hid (HR7.out.keep f8 (fun _ _ h => h))
              clear f8
              obtain ⟨la, lc, c0, _⟩ := HR8.out.cells
              rw [List.length_map] at c0
              have HHD := Lib.hid (here_head ns)
              have HLS := Lib.hid (here_last ns)
              obtain ⟨n3, hn3⟩ : ∃ z, ns.length = z := ⟨_, rfl⟩
              have hn3b : n3 ≤ 80 := by omega
              rw [hn3] at c0 HHD HLS
              have HN3 := Lib.hid hn3
              clear hn3
              go_wp2_with fail
              refine (found_c X w1.heap.size HHD.out w8 HR8.out).mono ?_
              rintro e w9 ⟨rfl, rfl⟩
              go_wp2_with fail
              refine (found_c X w1.heap.size HLS.out w8 HR8.out).mono ?_
              rintro e w9 ⟨rfl, rfl⟩
              have d6 : ((n3 : Int) == (n3 : Int)) = true := by simp
              go_wp2_with fail
              refine (keys_c b hb hs ns w8 HL8.out (by rw [HN3.out]; omega)).mono ?_
              rintro e w9 ⟨⟨kv, rfl, hrow⟩, f9⟩
              have HF9 := Lib.hid (HF8.out.trans f9)
              have HR9 := Lib.hid (HR8.out.keep f9 (fun _ _ h => h))
              obtain ⟨ka, kc, rfl, kle, kmx, _, kcell⟩ := hrow.form
              unfold maxLen at kmx
              have KC : Hid (∀ t (ht : t < ns.length), ∃ g, ka = some ⟨g, 0, none⟩ ∧ w9.cell? ⟨g, t, none⟩ = some (.int .i64 (ns[t]).k)) := Lib.hid fun t ht => by
                obtain ⟨g, _, hg, hcell⟩ := kcell (by omega)
                exact ⟨g, hg, (hcell t (by omega)).1.trans (keysC_at t ht)⟩
              have HPV : Hid (∀ W', Fr No w9 W' → ∀ p (hp : p < ns.length), ∃ la lc, W'.cell? ⟨w1.heap.size, 0, none⟩ = some (.slice (some ⟨la, 0, none⟩) ns.length lc) ∧ W'.cell? ⟨la, p * 3, none⟩ = some (.int .i64 (ns[p]).k)) := Lib.hid fun W' f p hp => by
                obtain ⟨la, lc, c0, _, _, _, hcells⟩ := (HR9.out.keep f (fun _ _ h => h)).cells
                obtain ⟨g2, _, _, rfl, hx⟩ := hcells (by rw [List.length_map]; omega)
                obtain ⟨p0, _⟩ := hx p (by rw [List.length_map]; exact hp)
                rw [getD_map_prOf ns p hp] at p0
                rw [List.length_map] at c0
                exact ⟨g2, lc, c0, p0⟩
              obtain ⟨lb, ld, c9, _⟩ := HR9.out.cells
              rw [List.length_map, HN3.out] at c9
              rw [HN3.out] at kle
              rw [HN3.out]
              clear f9 hrow kcell c0
              go_wp2_with fail
              clear c9
              go_loopw [312] (fun i wq => ∃ p : Nat, i = .int .i64 p ∧ p ≤ n3 ∧ Fr No w9 wq) (fun i _ => n3 - (intOf i).toNat)
              case atStart => exact ⟨0, rfl, Nat.zero_le _, Fr.refl _ _⟩
              case round =>
                obtain ⟨p, rfl, hp3, hfq⟩ := hrel
                have HFP := Lib.hid hfq
                clear hfq
                by_cases hpn : p < n3
                · have g2 : decide ((p : Int) < (n3 : Int)) = true := by rw [decide_eq_true_eq]; omega
                  have hp' : p < ns.length := by rw [HN3.out]; exact hpn
                  obtain ⟨kg, rfl, r1⟩ := KC.out p hp'
                  have r1 := HFP.out.cell r1 (fun h => h)
                  obtain ⟨lg, lh, r2, r3⟩ := HPV.out wr HFP.out p hp'
                  rw [HN3.out] at r2
                  obtain ⟨z, hz⟩ : ∃ z, (ns[p]).k = z := ⟨_, rfl⟩
                  rw [hz] at r1 r3
                  have d7 : (z == z) = true := by simp
                  clear hz
                  go_wp2_with fail
                  go_region
                  go_wp2_with fail
                  go_roundw
                  case rel => exact ⟨p + 1, by simp, by omega, HFP.out.drew⟩
                  case measure => simp [intOf]; omega
                · obtain rfl : p = n3 := by omega
                  have g2 : decide ((p : Int) < (p : Int)) = false := by simp
                  have HA := Lib.hid (awake_c wr)
                  go_wp2_with fail
                  refine HA.out.mono ?_
                  rintro e wz ⟨rfl, fz⟩
                  have HFZ := Lib.hid (((HF3.out.trans HF9.out).trans HFP.out).trans fz)
                  clear fz
                  go_wp2_with fail
                  go_ret
                  exact ⟨rfl, FIN.out _ HFZ.out⟩
end Go.Proofs.Ytdnaebbfbkdjoaa
