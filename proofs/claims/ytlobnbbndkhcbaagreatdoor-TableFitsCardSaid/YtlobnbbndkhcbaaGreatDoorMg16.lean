/-
  Texts of layer 13 and of what it stands on, one behind the other.
-/
import Derived.Test.YtlobnbbndkhcbaaGreatDoorMg14
import Derived.Test.YtlobnbbndkhcbaaGreatDoorMg13
import Derived.Test.YtlobnbbndkhcbaaGreatDoorMg12
import Derived.Test.YtlobnbbndkhcbaaGreatDoorMg09

/- Layer 12, the program's own: next. -/
namespace Go.Proofs.YtlobnbbndkhcbaaGreatDoor
set_option linter.unusedVariables false
open Go.RowKit

/-- What next tells. -/
def NxRet (b ah : ByteArray) (w : World) (e : Ending) (w' : World) : Prop :=
  Fr No w w' ∧ e = .returned (.tuple (match nextR b ah with | some (p, r) => #[prV p, .string r, .bool true] | none => #[prV pr0, .string emp, .bool false]))
theorem infoPr : (Tryz.prog.info? 74).map (·.size) = some 2 := by kernel_rfl
theorem next_results (tmps : Array Value) (w : World) (g : Nat) (x y r o : Value) (hp : tmps.getD 4 undef = .pointer (some ⟨g, 0, none⟩)) (hr : tmps.getD 5 undef = r) (ho : tmps.getD 6 undef = o) (hg : At w g 74 #[x, y]) :
    (results Tryz.f150 tmps).run Tryz.prog w = .ok (.tuple #[.agg #[x, y], r, o]) w := by
  have hp' : tmps[4]?.getD undef = .pointer (some ⟨g, 0, none⟩) := by simpa using hp
  have hr' : tmps[5]?.getD undef = r := by simpa using hr
  have ho' : tmps[6]?.getD undef = o := by simpa using ho
  have hl := run_loadVar_row (P := Tryz.prog) w g 74 74 #[x, y] (0, 0) _ hg Tryz.underlying74 rfl infoPr
  simp [results, Tryz.results150, hp', hr', ho', asAddr, hl]
/-- What next finds, in parts. -/
theorem nextR_parts (b ah : ByteArray) {f : ByteArray} {S O V : Nat} {st : St} {y : ByteArray} (hf : frontB b = f) (hn : nums3 (bs f) = ⟨S, O, V, st⟩) (hy : b.extract (f.size - st.1.length) b.size = y) :
    ((st.2 = true ∨ ah.size < S ∨ y.size < O ∨ y.size - O < V) → nextR b ah = none) ∧
    (¬ (st.2 = true ∨ ah.size < S ∨ y.size < O ∨ y.size - O < V) → nextR b ah = some (⟨ah.extract 0 S ++ y.extract 0 O, y.extract O (O + V)⟩, y.extract (O + V) y.size)) := by
  have e1 : n3 b = ⟨S, O, V, st⟩ := by unfold n3; rw [hf]; exact hn
  have e2 : bodyB b = y := by unfold bodyB; rw [e1, hf]; exact hy
  have e3 : badN b ah ↔ (st.2 = true ∨ ah.size < S ∨ y.size < O ∨ y.size - O < V) := by unfold badN; rw [e1, e2]
  constructor
  · intro h
    unfold nextR
    rw [if_pos (e3.2 h)]
  · intro h
    unfold nextR
    rw [if_neg (fun h' => h (e3.1 h'))]
    unfold pairN restN
    rw [e1, e2]
set_option maxRecDepth 20000 in
set_option maxHeartbeats 3200000 in
theorem next_c (b ah : ByteArray) (w : World) (hb : b.size ≤ 10000000000) (ha : ah.size ≤ 10000000000) :
    Calls Tryz.prog 150 #[.string b, .string ah] w (NxRet b ah w) := by
  obtain ⟨f, hf⟩ : ∃ f, frontB b = f := ⟨_, rfl⟩
  have hfz : f.size = min b.size 27 := by rw [← hf, frontB_size]
  have hfx : b.extract 0 f.size = f := by rw [hfz, ← hf]; rfl
  obtain ⟨fs, hfs⟩ : ∃ fs, f.size = fs := ⟨_, rfl⟩
  have hmin : min (b.size : Int) 27 = (fs : Int) := by omega
  have hfb : fs ≤ b.size := by omega
  have hf27 : fs ≤ 27 := by omega
  have hfx' : b.extract 0 fs = f := by rw [← hfs]; exact hfx
  obtain ⟨W0, hW⟩ : ∃ W, w.alloc (.cells #[.string ⟨#[]⟩, .string ⟨#[]⟩] 74) = W := ⟨_, rfl⟩
  have f0 : Fr No w W0 := by rw [← hW]; exact (Fr.refl No w).alloc _
  have s0 : W0.heap.size = w.heap.size + 1 := by rw [← hW]; simp
  have a0 : At W0 w.heap.size 74 #[.string ⟨#[]⟩, .string ⟨#[]⟩] := by rw [← hW]; exact At.new _ _ _
  obtain ⟨a1, c1, w1, hcv, hb1, hb2, hin, hfv⟩ := conv_strR W0 f (by unfold maxLen; omega)
  have HNR := Lib.hid (newr_c a1 f.size c1 (bs f) w1 (bs_length f) (by omega) hin.rd)
  rw [hfs] at hcv HNR
  have HCV := Lib.hid hcv
  have HA := Lib.hid (a0.keep hfv (fun h => h))
  have HF1 := Lib.hid (f0.trans hfv)
  have HW := Lib.hid hW
  have HFX := Lib.hid hfx'
  have HPT := Lib.hid (fun (S O V : Nat) (st : St) (y : ByteArray) h1 h2 => nextR_parts b ah (S := S) (O := O) (V := V) (st := st) (y := y) hf h1 h2)
  have HLE := Lib.hid (nums3_le (bs f))
  have HS0 : Hid (w.heap.size < w1.heap.size) := Lib.hid (by have := hfv.size; omega)
  have HBL : Hid ((bs f).length = fs) := Lib.hid (by rw [bs_length]; exact hfs)
  have HFS := Lib.hid hfs
  have hnb : (fs : Int) ≤ (b.size : Int) := by omega
  clear hf hfz hfx hfx' hW f0 s0 a0 hcv hb1 hb2 hin hfv hfs
  go_enter Tryz.func150, Tryz.ntmps150
  go_wp2_with fail
  rw [HFX.out, HW.out, HCV.out]
  go_wp2_with fail
  refine (show Calls _ _ _ _ _ from HNR.out).mono ?_
  rintro e w2 ⟨B, S, rfl, rr, f2, hB, hS⟩
  have HA := Lib.hid (HA.out.keep f2 (fun h => h))
  have HF2 := Lib.hid (HF1.out.trans f2)
  have HB : Hid (w.heap.size < B) := Lib.hid (Nat.lt_of_lt_of_le HS0.out hB)
  have HC := Lib.hid (rnum_c w2 B S _ rr)
  clear rr f2 hB hS HNR
  go_wp2_with fail
  refine (show Calls _ _ _ _ _ from HC.out).mono ?_
  rintro e w3 ⟨rfl, rr, f3⟩
  have HA := Lib.hid (HA.out.keep f3 (fun h => by have h : w.heap.size = B := h; have := HB.out; omega))
  have HF3 : Hid (Fr No w w3) := Lib.hid (HF2.out.then_ f3 (fun k hk h => by have h : k = B := h; have := HB.out; omega))
  have HC := Lib.hid (rnum_c w3 B S _ rr)
  clear rr f3 HF2
  go_wp2_with fail
  refine (show Calls _ _ _ _ _ from HC.out).mono ?_
  rintro e w4 ⟨rfl, rr, f4⟩
  have HA := Lib.hid (HA.out.keep f4 (fun h => by have h : w.heap.size = B := h; have := HB.out; omega))
  have HF4 : Hid (Fr No w w4) := Lib.hid (HF3.out.then_ f4 (fun k hk h => by have h : k = B := h; have := HB.out; omega))
  have HC := Lib.hid (rnum_c w4 B S _ rr)
  clear rr f4 HF3
  go_wp2_with fail
  refine (show Calls _ _ _ _ _ from HC.out).mono ?_
  rintro e w5 ⟨rfl, rr, f5⟩
  have HA := Lib.hid (HA.out.keep f5 (fun h => by have h : w.heap.size = B := h; have := HB.out; omega))
  have HF5 : Hid (Fr No w w5) := Lib.hid (HF4.out.then_ f5 (fun k hk h => by have h : k = B := h; have := HB.out; omega))
  have hn3 : nums3 (bs f) = ⟨(numS (bs f, false)).1, (numS (numS (bs f, false)).2).1, (numS (numS (numS (bs f, false)).2).2).1, (numS (numS (numS (bs f, false)).2).2).2⟩ := rfl
  obtain ⟨hl1, hl2, hl3, hl4⟩ := HLE.out
  rw [hn3, HBL.out] at hl1
  rw [hn3] at hl2 hl3 hl4
  simp only at hl1 hl2 hl3 hl4
  have HLC := Lib.hid (rleft_c w5 B S _ rr)
  have HBC := Lib.hid (rbad_c w5 B S _ rr)
  generalize (numS (bs f, false)).1 = sN at *
  generalize (numS (numS (bs f, false)).2).1 = oN at *
  generalize (numS (numS (numS (bs f, false)).2).2).1 = vN at *
  generalize (numS (numS (numS (bs f, false)).2).2).2 = st at *
  obtain ⟨rl, bad⟩ := st
  simp only at hl1 HLC HBC
  obtain ⟨ll, hll⟩ : ∃ ll, rl.length = ll := ⟨_, rfl⟩
  rw [hll] at hl1 HLC
  obtain ⟨y, hy⟩ : ∃ y, b.extract (fs - ll) b.size = y := ⟨_, rfl⟩
  have HP2 := Lib.hid (HPT.out sN oN vN (rl, bad) y hn3 (by simp only; rw [hll, HFS.out]; exact hy))
  have HY := Lib.hid hy
  have hyz : y.size ≤ 10000000000 := by rw [← hy, size_extract _ _ _ (Nat.le_refl _)]; omega
  have hsub : (fs : Int) - (ll : Int) = ((fs - ll : Nat) : Int) := by omega
  obtain ⟨k0, hk0⟩ : ∃ k0, fs - ll = k0 := ⟨_, rfl⟩
  rw [hk0] at hsub HY
  have hfsz : f.size = fs := HFS.out
  have hwr : IntKind.i64.wrap ((f.size : Int) - (ll : Int)) = (k0 : Int) := by rw [hfsz, hsub]; exact IntWalk.i64_in _ (by omega)
  clear hfsz
  have hk0b : (k0 : Int) ≤ (b.size : Int) := by omega
  clear rr f5 HF4 hn3 hy hll hk0 HPT HLE hl1 hmin hnb hfb hf27 HC
  go_wp2_with fail
  refine (show Calls _ _ _ _ _ from HLC.out).mono ?_
  rintro e w6 ⟨rfl, rfl⟩
  go_wp2_with fail
  refine (show Calls _ _ _ _ _ from HBC.out).mono ?_
  rintro e w6 ⟨rfl, rfl⟩
  rw [HY.out]
  have WAYS : (bad = true) ∨ (bad = false ∧ ah.size < sN) ∨ (bad = false ∧ sN ≤ ah.size ∧ y.size < oN) ∨ (bad = false ∧ sN ≤ ah.size ∧ oN ≤ y.size ∧ y.size - oN < vN) ∨ (bad = false ∧ sN ≤ ah.size ∧ oN ≤ y.size ∧ vN ≤ y.size - oN) := by
    cases bad
    · rcases Nat.lt_or_ge ah.size sN with h | h
      · exact .inr (.inl ⟨rfl, h⟩)
      · rcases Nat.lt_or_ge y.size oN with h2 | h2
        · exact .inr (.inr (.inl ⟨rfl, h, h2⟩))
        · rcases Nat.lt_or_ge (y.size - oN) vN with h3 | h3
          · exact .inr (.inr (.inr (.inl ⟨rfl, h, h2, h3⟩)))
          · exact .inr (.inr (.inr (.inr ⟨rfl, h, h2, h3⟩)))
    · exact .inl rfl
  rcases WAYS with rfl | ⟨rfl, h1⟩ | ⟨rfl, h1, h2⟩ | ⟨rfl, h1, h2, h3⟩ | ⟨rfl, h1, h2, h3⟩
  · have HNO := Lib.hid (HP2.out.1 (.inl rfl))
    have hA0 := HA.out.cell 0
    have hq0 := HA.out.frozen 0
    have hA1 := (HA.out.set_ 0 (.string ⟨#[]⟩)).cell 1
    have hq1 := (HA.out.set_ 0 (.string ⟨#[]⟩)).frozen 1
    have HFI : Hid (Fr No w (((w5.setCell ⟨w.heap.size, 0, none⟩ (.string ⟨#[]⟩))).setCell ⟨w.heap.size, 1, none⟩ (.string ⟨#[]⟩)) ∧ At (((w5.setCell ⟨w.heap.size, 0, none⟩ (.string ⟨#[]⟩))).setCell ⟨w.heap.size, 1, none⟩ (.string ⟨#[]⟩)) w.heap.size 74 #[.string ⟨#[]⟩, .string ⟨#[]⟩]) := Lib.hid
      ⟨(HF5.out.setCell (fun h => absurd h (Nat.lt_irrefl _)) _).setCell (fun h => absurd h (Nat.lt_irrefl _)) _, (HA.out.set_ 0 _).set_ 1 _⟩
    clear HP2
    go_wp2_with fail
    refine bodyPost_ret (next_results _ _ _ _ _ _ _ rfl rfl rfl HFI.out.2) rfl ?_
    refine ⟨HFI.out.1, ?_⟩
    rw [HNO.out]
    rfl
  · have d1 : decide ((sN : Int) > (ah.size : Int)) = true := by rw [decide_eq_true_eq]; omega
    have HNO := Lib.hid (HP2.out.1 (.inr (.inl h1)))
    have hA0 := HA.out.cell 0
    have hq0 := HA.out.frozen 0
    have hA1 := (HA.out.set_ 0 (.string ⟨#[]⟩)).cell 1
    have hq1 := (HA.out.set_ 0 (.string ⟨#[]⟩)).frozen 1
    have HFI : Hid (Fr No w (((w5.setCell ⟨w.heap.size, 0, none⟩ (.string ⟨#[]⟩))).setCell ⟨w.heap.size, 1, none⟩ (.string ⟨#[]⟩)) ∧ At (((w5.setCell ⟨w.heap.size, 0, none⟩ (.string ⟨#[]⟩))).setCell ⟨w.heap.size, 1, none⟩ (.string ⟨#[]⟩)) w.heap.size 74 #[.string ⟨#[]⟩, .string ⟨#[]⟩]) := Lib.hid
      ⟨(HF5.out.setCell (fun h => absurd h (Nat.lt_irrefl _)) _).setCell (fun h => absurd h (Nat.lt_irrefl _)) _, (HA.out.set_ 0 _).set_ 1 _⟩
    clear HP2
    go_wp2_with fail
    refine bodyPost_ret (next_results _ _ _ _ _ _ _ rfl rfl rfl HFI.out.2) rfl ?_
    refine ⟨HFI.out.1, ?_⟩
    rw [HNO.out]
    rfl
  · have d1 : decide ((sN : Int) > (ah.size : Int)) = false := by rw [decide_eq_false_iff_not]; omega
    have d2 : decide ((oN : Int) > (y.size : Int)) = true := by rw [decide_eq_true_eq]; omega
    have HNO := Lib.hid (HP2.out.1 (.inr (.inr (.inl h2))))
    have hA0 := HA.out.cell 0
    have hq0 := HA.out.frozen 0
    have hA1 := (HA.out.set_ 0 (.string ⟨#[]⟩)).cell 1
    have hq1 := (HA.out.set_ 0 (.string ⟨#[]⟩)).frozen 1
    have HFI : Hid (Fr No w (((w5.setCell ⟨w.heap.size, 0, none⟩ (.string ⟨#[]⟩))).setCell ⟨w.heap.size, 1, none⟩ (.string ⟨#[]⟩)) ∧ At (((w5.setCell ⟨w.heap.size, 0, none⟩ (.string ⟨#[]⟩))).setCell ⟨w.heap.size, 1, none⟩ (.string ⟨#[]⟩)) w.heap.size 74 #[.string ⟨#[]⟩, .string ⟨#[]⟩]) := Lib.hid
      ⟨(HF5.out.setCell (fun h => absurd h (Nat.lt_irrefl _)) _).setCell (fun h => absurd h (Nat.lt_irrefl _)) _, (HA.out.set_ 0 _).set_ 1 _⟩
    clear HP2
    go_wp2_with fail
    refine bodyPost_ret (next_results _ _ _ _ _ _ _ rfl rfl rfl HFI.out.2) rfl ?_
    refine ⟨HFI.out.1, ?_⟩
    rw [HNO.out]
    rfl
  · have d1 : decide ((sN : Int) > (ah.size : Int)) = false := by rw [decide_eq_false_iff_not]; omega
    have d2 : decide ((oN : Int) > (y.size : Int)) = false := by rw [decide_eq_false_iff_not]; omega
    have hvs : (y.size : Int) - (oN : Int) = ((y.size - oN : Nat) : Int) := by omega
    have d3 : decide ((vN : Int) > ((y.size : Int) - (oN : Int))) = true := by rw [decide_eq_true_eq]; omega
    have HNO := Lib.hid (HP2.out.1 (.inr (.inr (.inr h3))))
    have hA0 := HA.out.cell 0
    have hq0 := HA.out.frozen 0
    have hA1 := (HA.out.set_ 0 (.string ⟨#[]⟩)).cell 1
    have hq1 := (HA.out.set_ 0 (.string ⟨#[]⟩)).frozen 1
    have HFI : Hid (Fr No w (((w5.setCell ⟨w.heap.size, 0, none⟩ (.string ⟨#[]⟩))).setCell ⟨w.heap.size, 1, none⟩ (.string ⟨#[]⟩)) ∧ At (((w5.setCell ⟨w.heap.size, 0, none⟩ (.string ⟨#[]⟩))).setCell ⟨w.heap.size, 1, none⟩ (.string ⟨#[]⟩)) w.heap.size 74 #[.string ⟨#[]⟩, .string ⟨#[]⟩]) := Lib.hid
      ⟨(HF5.out.setCell (fun h => absurd h (Nat.lt_irrefl _)) _).setCell (fun h => absurd h (Nat.lt_irrefl _)) _, (HA.out.set_ 0 _).set_ 1 _⟩
    clear HP2
    go_wp2_with fail
    refine bodyPost_ret (next_results _ _ _ _ _ _ _ rfl rfl rfl HFI.out.2) rfl ?_
    refine ⟨HFI.out.1, ?_⟩
    rw [HNO.out]
    rfl
  · have d1 : decide ((sN : Int) > (ah.size : Int)) = false := by rw [decide_eq_false_iff_not]; omega
    have d2 : decide ((oN : Int) > (y.size : Int)) = false := by rw [decide_eq_false_iff_not]; omega
    have hvs : (y.size : Int) - (oN : Int) = ((y.size - oN : Nat) : Int) := by omega
    have d3 : decide ((vN : Int) > ((y.size : Int) - (oN : Int))) = false := by rw [decide_eq_false_iff_not]; omega
    have HYES := Lib.hid (HP2.out.2 (by simp only [Bool.false_eq_true, false_or, not_or, Nat.not_lt]; omega))
    clear HP2
    obtain ⟨m, hm⟩ : ∃ m, oN + vN = m := ⟨_, rfl⟩
    rw [hm] at HYES
    have hwm : IntKind.i64.wrap ((oN : Int) + (vN : Int)) = (m : Int) := by
      rw [show (oN : Int) + (vN : Int) = (m : Int) by omega]
      exact IntWalk.i64_in _ (by omega)
    have hm1 : (oN : Int) ≤ (m : Int) := by omega
    have hm2 : (m : Int) ≤ (y.size : Int) := by omega
    have hm3 : (0 : Int) ≤ (m : Int) := by omega
    go_wp2_with fail
    refine wp_region_held_drew (S := fun w' => ∃ u v, At w' w.heap.size 74 #[u, v]) (by kernel_rfl) ⟨_, _, HA.out.keep (Fr.refl No _).drew (fun h => h)⟩ (fun hHeld => ?_)
    refine take_drop (i := 0) (v := ?v0_w1) rfl (by kernel_rfl) (by kernel_rfl) (by kernel_rfl) (fun _ _ _ h => h) (Or.inl ⟨by rfl, ?h0_w1⟩) hHeld ?r0_w1
    case h0_w1 => (intro wS hSw; go_simp; all_goals (first | (with_reducible rfl) | (rw [if_neg (by omega)])))
    simp only [Act.put, List.setIfInBounds_toArray, List.set_cons_zero, List.set_cons_succ]
    refine take_drop (i := 1) (v := ?v1_w2) rfl (by kernel_rfl) (by kernel_rfl) (by kernel_rfl) (fun _ _ _ h => h) (Or.inl ⟨by rfl, ?h1_w2⟩) hHeld ?r1_w2
    case h1_w2 => (intro wS hSw; go_simp; all_goals (first | (with_reducible rfl) | (rw [if_neg (by omega)])))
    simp only [Act.put, List.setIfInBounds_toArray, List.set_cons_zero, List.set_cons_succ]
    refine take_drop (i := 2) (v := ?v2_w3) rfl (by kernel_rfl) (by kernel_rfl) (by kernel_rfl) (fun _ _ _ h => h) (Or.inl ⟨by rfl, ?h2_w3⟩) hHeld ?r2_w3
    case h2_w3 => (intro wS hSw; go_simp; all_goals (first | (with_reducible rfl) | (rw [if_neg (by omega)])))
    simp only [Act.put, List.setIfInBounds_toArray, List.set_cons_zero, List.set_cons_succ]
    refine take_drop (i := 3) (v := ?v3_w4) rfl (by kernel_rfl) (by kernel_rfl) (by kernel_rfl) (fun _ _ _ h => h) (Or.inl ⟨by rfl, ?h3_w4⟩) hHeld ?r3_w4
    case h3_w4 => (intro wS hSw; go_simp; all_goals (first | (with_reducible rfl) | (rw [if_neg (by omega)])))
    simp only [Act.put, List.setIfInBounds_toArray, List.set_cons_zero, List.set_cons_succ]
    refine take_drop (i := 4) (v := ?v4_w5) rfl (by kernel_rfl) (by kernel_rfl) (by kernel_rfl) (fun _ _ _ h => h) (Or.inl ⟨by rfl, ?h4_w5⟩) hHeld ?r4_w5
    case h4_w5 => (intro wS hSw; go_simp; all_goals (first | (with_reducible rfl) | (rw [if_neg (by omega)])))
    simp only [Act.put, List.setIfInBounds_toArray, List.set_cons_zero, List.set_cons_succ]
    refine take_drop (i := 5) (v := ?v5_w6) rfl (by kernel_rfl) (by kernel_rfl) (by kernel_rfl) (fun _ _ _ h => h) (Or.inl ⟨by rfl, ?h5_w6⟩) hHeld ?r5_w6
    case h5_w6 => (intro wS hSw; go_simp; all_goals (first | (with_reducible rfl) | (rw [if_neg (by omega)])))
    simp only [Act.put, List.setIfInBounds_toArray, List.set_cons_zero, List.set_cons_succ]
    refine take_drop (i := 6) (v := ?v6_w7) rfl (by kernel_rfl) (by kernel_rfl) (by kernel_rfl) (fun _ _ _ h => h) (Or.inl ⟨by rfl, ?h6_w7⟩) hHeld ?r6_w7
    case h6_w7 => (intro wS hSw; go_simp; all_goals (first | (with_reducible rfl) | (rw [if_neg (by omega)])))
    simp only [Act.put, List.setIfInBounds_toArray, List.set_cons_zero, List.set_cons_succ]
    refine take_drop (i := 7) (v := ?v7_w8) rfl (by kernel_rfl) (by kernel_rfl) (by kernel_rfl) (fun _ _ _ h => h) (Or.inl ⟨by rfl, ?h7_w8⟩) hHeld ?r7_w8
    case h7_w8 => (intro wS hSw; go_simp; all_goals (first | (with_reducible rfl) | (rw [if_neg (by omega)])))
    simp only [Act.put, List.setIfInBounds_toArray, List.set_cons_zero, List.set_cons_succ]
    refine take_drop (i := 8) (v := ?v8_w9) rfl (by kernel_rfl) (by kernel_rfl) (by kernel_rfl) (fun _ _ _ h => h) (Or.inl ⟨by rfl, ?h8_w9⟩) hHeld ?r8_w9
    case h8_w9 => (intro wS hSw; go_simp; all_goals (first | (with_reducible rfl) | (rw [if_neg (by omega)])))
    simp only [Act.put, List.setIfInBounds_toArray, List.set_cons_zero, List.set_cons_succ]
    refine take_drop (i := 9) (v := ?v9_w10) rfl (by kernel_rfl) (by kernel_rfl) (by kernel_rfl) (fun _ _ _ h => h) (Or.inl ⟨by rfl, ?h9_w10⟩) hHeld ?r9_w10
    case h9_w10 => (intro wS hSw; go_simp; all_goals (first | (with_reducible rfl) | (rw [if_neg (by omega)])))
    simp only [Act.put, List.setIfInBounds_toArray, List.set_cons_zero, List.set_cons_succ]
    refine take_drop (i := 10) (v := ?v10_w11) rfl (by kernel_rfl) (by kernel_rfl) (by kernel_rfl) (fun _ _ _ h => h) (Or.inl ⟨by rfl, ?h10_w11⟩) hHeld ?r10_w11
    case h10_w11 => (intro wS hSw; go_simp; all_goals (first | (with_reducible rfl) | (rw [if_neg (by omega)])))
    simp only [Act.put, List.setIfInBounds_toArray, List.set_cons_zero, List.set_cons_succ]
    refine take_drop (i := 11) (v := ?v11_w12) rfl (by kernel_rfl) (by kernel_rfl) (by kernel_rfl) (fun _ _ _ h => h) (Or.inl ⟨by rfl, ?h11_w12⟩) hHeld ?r11_w12
    case h11_w12 => (intro wS hSw; go_simp; (try rw [hwm]); all_goals (first | (with_reducible rfl) | (rw [if_neg (by omega)])))
    simp only [Act.put, List.setIfInBounds_toArray, List.set_cons_zero, List.set_cons_succ]
    refine take_drop (i := 12) (v := ?v12_w13) rfl (by kernel_rfl) (by kernel_rfl) (by kernel_rfl) (fun _ _ _ h => h) (Or.inl ⟨by rfl, ?h12_w13⟩) hHeld ?r12_w13
    case h12_w13 => (intro wS hSw; go_simp; all_goals (first | (with_reducible rfl) | (rw [if_neg (by omega)])))
    simp only [Act.put, List.setIfInBounds_toArray, List.set_cons_zero, List.set_cons_succ]
    refine take_drop (i := 13) (v := ?v13_w14) rfl (by kernel_rfl) (by kernel_rfl) (by kernel_rfl) (fun _ _ _ h => h) (Or.inl ⟨by rfl, ?h13_w14⟩) hHeld ?r13_w14
    case h13_w14 => (intro wS hSw; go_simp; all_goals (first | (with_reducible rfl) | (rw [if_neg (by omega)])))
    simp only [Act.put, List.setIfInBounds_toArray, List.set_cons_zero, List.set_cons_succ]
    obtain ⟨key, hkey⟩ : ∃ key, ah.extract 0 sN ++ y.extract 0 oN = key := ⟨_, rfl⟩
    obtain ⟨val, hval⟩ : ∃ val, y.extract oN m = val := ⟨_, rfl⟩
    rw [hkey, hval]
    rw [hkey, hval] at HYES
    clear hHeld
    obtain ⟨wR, hR⟩ : ∃ y, w5.drew = y := ⟨_, rfl⟩
    have HA : Hid (At wR w.heap.size 74 #[.string ⟨#[]⟩, .string ⟨#[]⟩]) := Lib.hid (by rw [← hR]; exact HA.out.keep (Fr.refl No _).drew (fun h => h))
    have HF : Hid (Fr No w wR) := Lib.hid (by rw [← hR]; exact HF5.out.drew)
    rw [hR]
    clear hR HF5
    have hA0 := HA.out.cell 0
    have hq0 := HA.out.frozen 0
    have hA1 := (HA.out.set_ 0 (.string key)).cell 1
    have hq1 := (HA.out.set_ 0 (.string key)).frozen 1
    have hAA : At ((wR.setCell ⟨w.heap.size, 0, none⟩ (.string key)).setCell ⟨w.heap.size, 1, none⟩ (.string val)) w.heap.size 74 #[.string key, .string val] := (HA.out.set_ 0 _).set_ 1 _
    have HFF : Hid (Fr No w ((wR.setCell ⟨w.heap.size, 0, none⟩ (.string key)).setCell ⟨w.heap.size, 1, none⟩ (.string val))) := Lib.hid ((HF.out.setCell (fun h => absurd h (Nat.lt_irrefl _)) _).setCell (fun h => absurd h (Nat.lt_irrefl _)) _)
    refine wpAnyH_ready (rs := [14]) (by kernel_rfl) (by simp) ?_
    refine do_drop (i := 14) rfl (fun K hK => ?_) AllReadyH.nil
    go_simp
    obtain ⟨w6, hw6⟩ : ∃ w6, (wR.setCell ⟨w.heap.size, 0, none⟩ (.string key)).setCell ⟨w.heap.size, 1, none⟩ (.string val) = w6 := ⟨_, rfl⟩
    rw [hw6] at hAA HFF ⊢
    refine hK.out _ _ ⟨_, _, hAA⟩ ?_
    clear hK K hA0 hq0 hA1 hq1 hw6 HF HA
    refine wpAnyH_done (by kernel_rfl) ?_ _
    have HA := Lib.hid hAA
    clear hAA
    go_wp2_with fail
    refine wp_region_held_drew (S := fun w' => At w' w.heap.size 74 #[.string key, .string val]) (by kernel_rfl) (HA.out.keep (Fr.refl No _).drew (fun h => h)) (fun hHeld => ?_)
    refine take_drop (i := 0) (v := ?v0_w15) rfl (by kernel_rfl) (by kernel_rfl) (by kernel_rfl) (fun _ _ _ h => h) (Or.inl ⟨by rfl, ?h0_w15⟩) hHeld ?r0_w15
    case h0_w15 => (intro wS hSw; have c0 := hSw.cell 0; have c1 := hSw.cell 1; go_simp; all_goals (first | (with_reducible rfl) | (rw [if_neg (by omega)])))
    simp only [Act.put, List.setIfInBounds_toArray, List.set_cons_zero, List.set_cons_succ]
    refine take_drop (i := 1) (v := ?v1_w16) rfl (by kernel_rfl) (by kernel_rfl) (by kernel_rfl) (fun _ _ _ h => h) (Or.inl ⟨by rfl, ?h1_w16⟩) hHeld ?r1_w16
    case h1_w16 => (intro wS hSw; have c0 := hSw.cell 0; have c1 := hSw.cell 1; go_simp; all_goals (first | (with_reducible rfl) | (rw [if_neg (by omega)])))
    simp only [Act.put, List.setIfInBounds_toArray, List.set_cons_zero, List.set_cons_succ]
    refine take_drop (i := 2) (v := ?v2_w17) rfl (by kernel_rfl) (by kernel_rfl) (by kernel_rfl) (fun _ _ _ h => h) (Or.inl ⟨by rfl, ?h2_w17⟩) hHeld ?r2_w17
    case h2_w17 => (intro wS hSw; have c0 := hSw.cell 0; have c1 := hSw.cell 1; go_simp; all_goals (first | (with_reducible rfl) | (rw [if_neg (by omega)])))
    simp only [Act.put, List.setIfInBounds_toArray, List.set_cons_zero, List.set_cons_succ]
    refine take_drop (i := 3) (v := ?v3_w18) rfl (by kernel_rfl) (by kernel_rfl) (by kernel_rfl) (fun _ _ _ h => h) (Or.inl ⟨by rfl, ?h3_w18⟩) hHeld ?r3_w18
    case h3_w18 => (intro wS hSw; have c0 := hSw.cell 0; have c1 := hSw.cell 1; go_simp; all_goals (first | (with_reducible rfl) | (rw [if_neg (by omega)])))
    simp only [Act.put, List.setIfInBounds_toArray, List.set_cons_zero, List.set_cons_succ]
    refine take_drop (i := 4) (v := ?v4_w19) rfl (by kernel_rfl) (by kernel_rfl) (by kernel_rfl) (fun _ _ _ h => h) (Or.inl ⟨by rfl, ?h4_w19⟩) hHeld ?r4_w19
    case h4_w19 => (intro wS hSw; have c0 := hSw.cell 0; have c1 := hSw.cell 1; go_simp; (try rw [hwm]); all_goals (first | (with_reducible rfl) | (rw [if_neg (by omega)])))
    simp only [Act.put, List.setIfInBounds_toArray, List.set_cons_zero, List.set_cons_succ]
    refine take_drop (i := 5) (v := ?v5_w20) rfl (by kernel_rfl) (by kernel_rfl) (by kernel_rfl) (fun _ _ _ h => h) (Or.inl ⟨by rfl, ?h5_w20⟩) hHeld ?r5_w20
    case h5_w20 => (intro wS hSw; have c0 := hSw.cell 0; have c1 := hSw.cell 1; go_simp; all_goals (first | (with_reducible rfl) | (rw [if_neg (by omega)])))
    simp only [Act.put, List.setIfInBounds_toArray, List.set_cons_zero, List.set_cons_succ]
    obtain ⟨rest, hrest⟩ : ∃ rest, y.extract m y.size = rest := ⟨_, rfl⟩
    rw [hrest]
    rw [hrest] at HYES
    clear hHeld
    obtain ⟨wR, hR⟩ : ∃ y, w6.drew = y := ⟨_, rfl⟩
    have HA : Hid (At wR w.heap.size 74 #[.string key, .string val]) := Lib.hid (by rw [← hR]; exact HA.out.keep (Fr.refl No _).drew (fun h => h))
    have HF : Hid (Fr No w wR) := Lib.hid (by rw [← hR]; exact HFF.out.drew)
    rw [hR]
    clear hR HFF
    have hA0 := HA.out.cell 0
    have hq0 := HA.out.frozen 0
    have hA1 := (HA.out.set_ 0 (.string key)).cell 1
    have hq1 := (HA.out.set_ 0 (.string key)).frozen 1
    have hAA : At ((wR.setCell ⟨w.heap.size, 0, none⟩ (.string key)).setCell ⟨w.heap.size, 1, none⟩ (.string val)) w.heap.size 74 #[.string key, .string val] := (HA.out.set_ 0 _).set_ 1 _
    have HFF : Hid (Fr No w ((wR.setCell ⟨w.heap.size, 0, none⟩ (.string key)).setCell ⟨w.heap.size, 1, none⟩ (.string val))) := Lib.hid ((HF.out.setCell (fun h => absurd h (Nat.lt_irrefl _)) _).setCell (fun h => absurd h (Nat.lt_irrefl _)) _)
    refine wpAnyH_ready (rs := [6]) (by kernel_rfl) (by simp) ?_
    refine do_drop (i := 6) rfl (fun K hK => ?_) AllReadyH.nil
    go_simp
    obtain ⟨w7, hw7⟩ : ∃ w7, (wR.setCell ⟨w.heap.size, 0, none⟩ (.string key)).setCell ⟨w.heap.size, 1, none⟩ (.string val) = w7 := ⟨_, rfl⟩
    rw [hw7] at hAA HFF ⊢
    refine hK.out _ _ hAA ?_
    clear hK K hA0 hq0 hA1 hq1 hw7 HF HA
    have hHeld := hAA
    refine take_drop (i := 7) (v := ?v7_w21) rfl (by kernel_rfl) (by kernel_rfl) (by kernel_rfl) (fun _ _ _ h => h) (Or.inl ⟨by rfl, ?h7_w21⟩) hHeld ?r7_w21
    case h7_w21 => (intro wS hSw; have c0 := hSw.cell 0; have c1 := hSw.cell 1; go_simp; all_goals (first | (with_reducible rfl) | (rw [if_neg (by omega)])))
    simp only [Act.put, List.setIfInBounds_toArray, List.set_cons_zero, List.set_cons_succ]
    refine take_drop (i := 8) (v := ?v8_w22) rfl (by kernel_rfl) (by kernel_rfl) (by kernel_rfl) (fun _ _ _ h => h) (Or.inl ⟨by rfl, ?h8_w22⟩) hHeld ?r8_w22
    case h8_w22 => (intro wS hSw; have c0 := hSw.cell 0; have c1 := hSw.cell 1; go_simp; all_goals (first | (with_reducible rfl) | (rw [if_neg (by omega)])))
    simp only [Act.put, List.setIfInBounds_toArray, List.set_cons_zero, List.set_cons_succ]
    refine wpAnyH_done (by kernel_rfl) ?_ _
    have HA := Lib.hid hAA
    clear hAA hHeld
    go_wp2_with fail
    refine bodyPost_ret (next_results _ _ _ _ _ _ _ rfl rfl rfl HA.out) rfl ?_
    refine ⟨HFF.out, ?_⟩
    rw [HYES.out]
    rfl
end Go.Proofs.YtlobnbbndkhcbaaGreatDoor
