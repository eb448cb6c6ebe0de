/-
  The walk of IkeyOrders.
-/
import Derived.Test.YtdpfgkjjjjkfkaaIkF
import Derived.Test.YtdpfgkjjjjkfkaaIkC2
namespace Go.Proofs.Ytdpfgkjjjjkfkaa
set_option linter.unusedVariables false
open Go.RowKit

theorem boxes2 (w : World) (t : TypeId) (x y : Array Value) : ∃ W, (w.alloc (.cells x t)).alloc (.cells y t) = W ∧ Fr No w W ∧ At W w.heap.size t x ∧ At W (w.heap.size + 1) t y := by
  refine ⟨_, rfl, ((Fr.refl No w).alloc _).alloc _, ?_, ?_⟩
  · exact (At.new w t x).keep ((Fr.refl No _).alloc _) (fun h => h)
  · have := At.new (w.alloc (.cells x t)) t y
    simpa using this
theorem neg_small (c : Int) (h : c = -1 ∨ c = 0 ∨ c = 1) : IntKind.i64.wrap (-c) = -c := IntWalk.i64_in _ ⟨by omega, by omega⟩
set_option maxRecDepth 20000 in
set_option maxHeartbeats 30000000 in
theorem orders_c (s s' : ByteArray) (q k q' k' : Int) (hs : s.size ≤ maxLen) (hs' : s'.size ≤ maxLen) (w : World) :
    Calls Try.prog 5 #[.agg #[.string s, .int .i64 q, .int .i64 k], .agg #[.string s', .int .i64 q', .int .i64 k']] w (Yes w) := by
  have CA := Lib.hid awake_c
  obtain ⟨W, hW, hf, A1, A2⟩ := boxes2 w 23 #[.string s, .int .i64 q, .int .i64 k] #[.string s', .int .i64 q', .int .i64 k']
  have HW := Lib.hid hW
  have HF := Lib.hid hf
  clear hW hf
  have CS1 := fun w => small_c s q k w
  have CS2 := fun w => small_c s' q' k' w
  by_cases g : (s.size : Int) ≤ 300 ∧ (s'.size : Int) ≤ 300
  · obtain ⟨g1, g2⟩ := g
    rw [decide_eq_true g1] at CS1
    rw [decide_eq_true g2] at CS2
    have CS1 := Lib.hid CS1
    have CS2 := Lib.hid CS2
    obtain ⟨c, hc⟩ : ∃ c, cmpK s.data.toList q k s'.data.toList q' k' = c := ⟨_, rfl⟩
    have hn : cmpK s'.data.toList q' k' s.data.toList q k = -c := by rw [cmpK_neg, hc]
    have hr := cmpK_range s.data.toList q k s'.data.toList q' k'
    rw [hc] at hr
    have CW := fun w => refCmp_c s s' q k q' k' hs hs' w
    rw [hc] at CW
    have CW := Lib.hid CW
    have HC := Lib.hid hc
    clear hc hs hs' g1 g2
    have key : (Rt s.size q k ∧ Rt s'.size q' k') ∨ ¬ Rt s.size q k ∨ (Rt s.size q k ∧ ¬ Rt s'.size q' k') := by
      by_cases h1 : Rt s.size q k
      · by_cases h2 : Rt s'.size q' k'
        · exact .inl ⟨h1, h2⟩
        · exact .inr (.inr ⟨h1, h2⟩)
      · exact .inr (.inl h1)
    rcases hr with rfl | rfl | rfl
    · have HN := Lib.hid (hn.trans (by omega : -(-1 : Int) = 1))
      clear hn
      rcases key with hrt | hrt | hrt
      · as_aux_lemma =>
        obtain ⟨r1, r2⟩ := hrt
        obtain ⟨X, hX⟩ : ∃ X, encK s.data.toList q k = X := ⟨_, rfl⟩
        obtain ⟨Y, hY⟩ : ∃ Y, encK s'.data.toList q' k' = Y := ⟨_, rfl⟩
        have CX := fun w => bytes_yes s q k w r1
        have CY := fun w => bytes_yes s' q' k' w r2
        have hxy : Lib.compareBytes X Y = -1 := by rw [← hX, ← hY]; exact (cmpB_encK _ _ _ _ _ _ _ _ r1 r2).trans HC.out
        have hyx : Lib.compareBytes Y X = 1 := by rw [show Lib.compareBytes Y X = - Lib.compareBytes X Y from cmpB_neg X Y, hxy]; try rfl
        have hsm : (X == Y) = false := by rw [beq_eq_false_iff_ne]; rintro rfl; rw [show Lib.compareBytes X X = 0 from cmpB_self X] at hxy; exact absurd hxy (by decide)
        rw [hX] at CX
        rw [hY] at CY
        have CX := Lib.hid CX
        have CY := Lib.hid CY
        have H1 := Lib.hid (show decide (Lib.compareBytes X Y < 0) = true by rw [hxy]; rfl)
        have H2 := Lib.hid (show decide (Lib.compareBytes Y X < 0) = false by rw [hyx]; rfl)
        have H3 := Lib.hid hsm
        clear hX hY hxy hyx hsm r1 r2
        go_enter Try.func5, Try.ntmps5
        go_wp2_with fail
        rw [HW.out]
        refine (CS1.out _).mono ?_
        rintro e w1 ⟨rfl, hf⟩
        have A1 := A1.keep hf (fun h => h)
        have A2 := A2.keep hf (fun h => h)
        obtain ⟨a0, a1, a2⟩ := A1.key
        obtain ⟨b0, b1, b2⟩ := A2.key
        have HF := Lib.hid (HF.out.trans hf)
        clear hf
        go_wp2_with fail
        refine (CS2.out _).mono ?_
        rintro e w1 ⟨rfl, hf⟩
        have A1 := A1.keep hf (fun h => h)
        have A2 := A2.keep hf (fun h => h)
        obtain ⟨a0, a1, a2⟩ := A1.key
        obtain ⟨b0, b1, b2⟩ := A2.key
        have HF := Lib.hid (HF.out.trans hf)
        clear hf
        go_wp2_with fail
        have HF := Lib.hid HF.out.drew
        have A1 := show At (World.drew _) _ _ _ from A1
        have A2 := show At (World.drew _) _ _ _ from A2
        go_region_held3 (fun w' => w'.cell? ⟨w.heap.size, 0, none⟩ = some (.string s) ∧ w'.cell? ⟨w.heap.size, 1, none⟩ = some (.int .i64 q) ∧ w'.cell? ⟨w.heap.size, 2, none⟩ = some (.int .i64 k) ∧ w'.cell? ⟨w.heap.size + 1, 0, none⟩ = some (.string s') ∧ w'.cell? ⟨w.heap.size + 1, 1, none⟩ = some (.int .i64 q') ∧ w'.cell? ⟨w.heap.size + 1, 2, none⟩ = some (.int .i64 k')) (first | assumption | go_keep)
          (first
            | (go_at_call 14; refine (ref_c _ _ _ _).mono ?_; intro e wk hret; obtain ⟨rfl, hf⟩ := hret
               have A1 := A1.keep hf (fun h => h)
               have A2 := A2.keep hf (fun h => h)
               have a0 := hf.cell (p := ⟨w.heap.size, 0, none⟩) (v := .string s) a0 (fun h => h)
               have a1 := hf.cell (p := ⟨w.heap.size, 1, none⟩) (v := .int .i64 q) a1 (fun h => h)
               have a2 := hf.cell (p := ⟨w.heap.size, 2, none⟩) (v := .int .i64 k) a2 (fun h => h)
               have b0 := hf.cell (p := ⟨w.heap.size + 1, 0, none⟩) (v := .string s') b0 (fun h => h)
               have b1 := hf.cell (p := ⟨w.heap.size + 1, 1, none⟩) (v := .int .i64 q') b1 (fun h => h)
               have b2 := hf.cell (p := ⟨w.heap.size + 1, 2, none⟩) (v := .int .i64 k') b2 (fun h => h)
               have HF := Lib.hid (HF.out.trans hf)
               clear hf)
            | (go_at_call 19; refine (CW.out _).mono ?_; intro e wk hret; obtain ⟨rfl, hf⟩ := hret
               have A1 := A1.keep hf (fun h => h)
               have A2 := A2.keep hf (fun h => h)
               have a0 := hf.cell (p := ⟨w.heap.size, 0, none⟩) (v := .string s) a0 (fun h => h)
               have a1 := hf.cell (p := ⟨w.heap.size, 1, none⟩) (v := .int .i64 q) a1 (fun h => h)
               have a2 := hf.cell (p := ⟨w.heap.size, 2, none⟩) (v := .int .i64 k) a2 (fun h => h)
               have b0 := hf.cell (p := ⟨w.heap.size + 1, 0, none⟩) (v := .string s') b0 (fun h => h)
               have b1 := hf.cell (p := ⟨w.heap.size + 1, 1, none⟩) (v := .int .i64 q') b1 (fun h => h)
               have b2 := hf.cell (p := ⟨w.heap.size + 1, 2, none⟩) (v := .int .i64 k') b2 (fun h => h)
               have HF := Lib.hid (HF.out.trans hf)
               clear hf))
        go_wp2_with fail
        refine (cmp_c _ _ _ _ _ _ _).mono ?_
        intro e w1 hret
        rw [HC.out] at hret
        obtain ⟨rfl, hf⟩ := hret
        have A1 := A1.keep hf (fun h => h)
        have A2 := A2.keep hf (fun h => h)
        obtain ⟨a0, a1, a2⟩ := A1.key
        obtain ⟨b0, b1, b2⟩ := A2.key
        have HF := Lib.hid (HF.out.trans hf)
        clear hf
        go_wp2_with fail
        refine (cmp_c _ _ _ _ _ _ _).mono ?_
        intro e w1 hret
        rw [HN.out] at hret
        obtain ⟨rfl, hf⟩ := hret
        have A1 := A1.keep hf (fun h => h)
        have A2 := A2.keep hf (fun h => h)
        obtain ⟨a0, a1, a2⟩ := A1.key
        obtain ⟨b0, b1, b2⟩ := A2.key
        have HF := Lib.hid (HF.out.trans hf)
        clear hf
        go_wp2_with fail
        refine (CX.out _).mono ?_
        rintro e w1 ⟨x, cx, rfl, hrow, hf⟩
        obtain ⟨x2, cx2, hv, hcx, hmx, hin⟩ := hrow.form
        simp only [Value.slice.injEq, true_and] at hv
        obtain ⟨rfl, rfl⟩ := hv
        have RX := Lib.hid hin.rd
        clear hin
        clear hrow
        have A1 := A1.keep hf (fun h => h)
        have A2 := A2.keep hf (fun h => h)
        obtain ⟨a0, a1, a2⟩ := A1.key
        obtain ⟨b0, b1, b2⟩ := A2.key
        have HF := Lib.hid (HF.out.trans hf)
        clear hf
        go_wp2_with fail
        refine (CY.out _).mono ?_
        rintro e w1 ⟨y, cy, rfl, hrow, hf⟩
        obtain ⟨y2, cy2, hv, hcy, hmy, hin⟩ := hrow.form
        simp only [Value.slice.injEq, true_and] at hv
        obtain ⟨rfl, rfl⟩ := hv
        have RY := Lib.hid hin.rd
        clear hin
        clear hrow
        have A1 := A1.keep hf (fun h => h)
        have A2 := A2.keep hf (fun h => h)
        obtain ⟨a0, a1, a2⟩ := A1.key
        obtain ⟨b0, b1, b2⟩ := A2.key
        have RX := Lib.hid (Rd.keep RX.out hf)
        have HF := Lib.hid (HF.out.trans hf)
        clear hf
        go_wp2_with fail
        refine (less_c _ _ _ _ _ _ X Y _ rfl rfl RX.out RY.out).mono ?_
        rw [H1.out]
        rintro e w1 ⟨rfl, rfl⟩
        go_wp2_with fail
        refine (less_c _ _ _ _ _ _ Y X _ rfl rfl RY.out RX.out).mono ?_
        rw [H2.out]
        rintro e w1 ⟨rfl, rfl⟩
        go_wp2_with fail
        refine (same_c _ _ _ _ _ _ X Y _ rfl rfl RX.out RY.out).mono ?_
        rw [H3.out]
        rintro e w1 ⟨rfl, rfl⟩
        go_wp2_with fail
        refine (CA.out _).mono ?_
        rintro e w1 ⟨rfl, hf⟩
        have A1 := A1.keep hf (fun h => h)
        have A2 := A2.keep hf (fun h => h)
        obtain ⟨a0, a1, a2⟩ := A1.key
        obtain ⟨b0, b1, b2⟩ := A2.key
        have HF := Lib.hid (HF.out.trans hf)
        clear hf
        go_wp2_with fail
        go_ret
        exact ⟨rfl, HF.out⟩
      · as_aux_lemma =>
        have CX := Lib.hid (fun w => bytes_no s q k w hrt)
        have hY : Rt s'.size q' k' ∨ ¬ Rt s'.size q' k' := Decidable.em _
        go_enter Try.func5, Try.ntmps5
        go_wp2_with fail
        rw [HW.out]
        refine (CS1.out _).mono ?_
        rintro e w1 ⟨rfl, hf⟩
        have A1 := A1.keep hf (fun h => h)
        have A2 := A2.keep hf (fun h => h)
        obtain ⟨a0, a1, a2⟩ := A1.key
        obtain ⟨b0, b1, b2⟩ := A2.key
        have HF := Lib.hid (HF.out.trans hf)
        clear hf
        go_wp2_with fail
        refine (CS2.out _).mono ?_
        rintro e w1 ⟨rfl, hf⟩
        have A1 := A1.keep hf (fun h => h)
        have A2 := A2.keep hf (fun h => h)
        obtain ⟨a0, a1, a2⟩ := A1.key
        obtain ⟨b0, b1, b2⟩ := A2.key
        have HF := Lib.hid (HF.out.trans hf)
        clear hf
        go_wp2_with fail
        have HF := Lib.hid HF.out.drew
        have A1 := show At (World.drew _) _ _ _ from A1
        have A2 := show At (World.drew _) _ _ _ from A2
        go_region_held3 (fun w' => w'.cell? ⟨w.heap.size, 0, none⟩ = some (.string s) ∧ w'.cell? ⟨w.heap.size, 1, none⟩ = some (.int .i64 q) ∧ w'.cell? ⟨w.heap.size, 2, none⟩ = some (.int .i64 k) ∧ w'.cell? ⟨w.heap.size + 1, 0, none⟩ = some (.string s') ∧ w'.cell? ⟨w.heap.size + 1, 1, none⟩ = some (.int .i64 q') ∧ w'.cell? ⟨w.heap.size + 1, 2, none⟩ = some (.int .i64 k')) (first | assumption | go_keep)
          (first
            | (go_at_call 14; refine (ref_c _ _ _ _).mono ?_; intro e wk hret; obtain ⟨rfl, hf⟩ := hret
               have A1 := A1.keep hf (fun h => h)
               have A2 := A2.keep hf (fun h => h)
               have a0 := hf.cell (p := ⟨w.heap.size, 0, none⟩) (v := .string s) a0 (fun h => h)
               have a1 := hf.cell (p := ⟨w.heap.size, 1, none⟩) (v := .int .i64 q) a1 (fun h => h)
               have a2 := hf.cell (p := ⟨w.heap.size, 2, none⟩) (v := .int .i64 k) a2 (fun h => h)
               have b0 := hf.cell (p := ⟨w.heap.size + 1, 0, none⟩) (v := .string s') b0 (fun h => h)
               have b1 := hf.cell (p := ⟨w.heap.size + 1, 1, none⟩) (v := .int .i64 q') b1 (fun h => h)
               have b2 := hf.cell (p := ⟨w.heap.size + 1, 2, none⟩) (v := .int .i64 k') b2 (fun h => h)
               have HF := Lib.hid (HF.out.trans hf)
               clear hf)
            | (go_at_call 19; refine (CW.out _).mono ?_; intro e wk hret; obtain ⟨rfl, hf⟩ := hret
               have A1 := A1.keep hf (fun h => h)
               have A2 := A2.keep hf (fun h => h)
               have a0 := hf.cell (p := ⟨w.heap.size, 0, none⟩) (v := .string s) a0 (fun h => h)
               have a1 := hf.cell (p := ⟨w.heap.size, 1, none⟩) (v := .int .i64 q) a1 (fun h => h)
               have a2 := hf.cell (p := ⟨w.heap.size, 2, none⟩) (v := .int .i64 k) a2 (fun h => h)
               have b0 := hf.cell (p := ⟨w.heap.size + 1, 0, none⟩) (v := .string s') b0 (fun h => h)
               have b1 := hf.cell (p := ⟨w.heap.size + 1, 1, none⟩) (v := .int .i64 q') b1 (fun h => h)
               have b2 := hf.cell (p := ⟨w.heap.size + 1, 2, none⟩) (v := .int .i64 k') b2 (fun h => h)
               have HF := Lib.hid (HF.out.trans hf)
               clear hf))
        go_wp2_with fail
        refine (cmp_c _ _ _ _ _ _ _).mono ?_
        intro e w1 hret
        rw [HC.out] at hret
        obtain ⟨rfl, hf⟩ := hret
        have A1 := A1.keep hf (fun h => h)
        have A2 := A2.keep hf (fun h => h)
        obtain ⟨a0, a1, a2⟩ := A1.key
        obtain ⟨b0, b1, b2⟩ := A2.key
        have HF := Lib.hid (HF.out.trans hf)
        clear hf
        go_wp2_with fail
        refine (cmp_c _ _ _ _ _ _ _).mono ?_
        intro e w1 hret
        rw [HN.out] at hret
        obtain ⟨rfl, hf⟩ := hret
        have A1 := A1.keep hf (fun h => h)
        have A2 := A2.keep hf (fun h => h)
        obtain ⟨a0, a1, a2⟩ := A1.key
        obtain ⟨b0, b1, b2⟩ := A2.key
        have HF := Lib.hid (HF.out.trans hf)
        clear hf
        go_wp2_with fail
        refine (CX.out _).mono ?_
        rintro e w1 ⟨rfl, hf⟩
        have A1 := A1.keep hf (fun h => h)
        have A2 := A2.keep hf (fun h => h)
        obtain ⟨a0, a1, a2⟩ := A1.key
        obtain ⟨b0, b1, b2⟩ := A2.key
        have HF := Lib.hid (HF.out.trans hf)
        clear hf
        go_wp2_with fail
        rcases hY with r2 | r2
        · obtain ⟨Y, hY⟩ : ∃ Y, encK s'.data.toList q' k' = Y := ⟨_, rfl⟩
          have CY := fun w => bytes_yes s' q' k' w r2
          rw [hY] at CY
          clear r2 hY
          refine (CY _).mono ?_
          rintro e w1 ⟨y, cy, rfl, hrow, hf⟩
          clear hrow
          have A1 := A1.keep hf (fun h => h)
          have A2 := A2.keep hf (fun h => h)
          obtain ⟨a0, a1, a2⟩ := A1.key
          obtain ⟨b0, b1, b2⟩ := A2.key
          have HF := Lib.hid (HF.out.trans hf)
          clear hf
          go_wp2_with fail
          refine (CA.out _).mono ?_
          rintro e w1 ⟨rfl, hf⟩
          have A1 := A1.keep hf (fun h => h)
          have A2 := A2.keep hf (fun h => h)
          obtain ⟨a0, a1, a2⟩ := A1.key
          obtain ⟨b0, b1, b2⟩ := A2.key
          have HF := Lib.hid (HF.out.trans hf)
          clear hf
          go_wp2_with fail
          go_ret
          exact ⟨rfl, HF.out⟩
        · have CY := fun w => bytes_no s' q' k' w r2
          clear r2
          refine (CY _).mono ?_
          rintro e w1 ⟨rfl, hf⟩
          have A1 := A1.keep hf (fun h => h)
          have A2 := A2.keep hf (fun h => h)
          obtain ⟨a0, a1, a2⟩ := A1.key
          obtain ⟨b0, b1, b2⟩ := A2.key
          have HF := Lib.hid (HF.out.trans hf)
          clear hf
          go_wp2_with fail
          refine (CA.out _).mono ?_
          rintro e w1 ⟨rfl, hf⟩
          have A1 := A1.keep hf (fun h => h)
          have A2 := A2.keep hf (fun h => h)
          obtain ⟨a0, a1, a2⟩ := A1.key
          obtain ⟨b0, b1, b2⟩ := A2.key
          have HF := Lib.hid (HF.out.trans hf)
          clear hf
          go_wp2_with fail
          go_ret
          exact ⟨rfl, HF.out⟩
      · as_aux_lemma =>
        obtain ⟨r1, r2⟩ := hrt
        obtain ⟨X, hX⟩ : ∃ X, encK s.data.toList q k = X := ⟨_, rfl⟩
        have CX := fun w => bytes_yes s q k w r1
        rw [hX] at CX
        have CX := Lib.hid CX
        have CY := Lib.hid (fun w => bytes_no s' q' k' w r2)
        clear hX r1 r2
        go_enter Try.func5, Try.ntmps5
        go_wp2_with fail
        rw [HW.out]
        refine (CS1.out _).mono ?_
        rintro e w1 ⟨rfl, hf⟩
        have A1 := A1.keep hf (fun h => h)
        have A2 := A2.keep hf (fun h => h)
        obtain ⟨a0, a1, a2⟩ := A1.key
        obtain ⟨b0, b1, b2⟩ := A2.key
        have HF := Lib.hid (HF.out.trans hf)
        clear hf
        go_wp2_with fail
        refine (CS2.out _).mono ?_
        rintro e w1 ⟨rfl, hf⟩
        have A1 := A1.keep hf (fun h => h)
        have A2 := A2.keep hf (fun h => h)
        obtain ⟨a0, a1, a2⟩ := A1.key
        obtain ⟨b0, b1, b2⟩ := A2.key
        have HF := Lib.hid (HF.out.trans hf)
        clear hf
        go_wp2_with fail
        have HF := Lib.hid HF.out.drew
        have A1 := show At (World.drew _) _ _ _ from A1
        have A2 := show At (World.drew _) _ _ _ from A2
        go_region_held3 (fun w' => w'.cell? ⟨w.heap.size, 0, none⟩ = some (.string s) ∧ w'.cell? ⟨w.heap.size, 1, none⟩ = some (.int .i64 q) ∧ w'.cell? ⟨w.heap.size, 2, none⟩ = some (.int .i64 k) ∧ w'.cell? ⟨w.heap.size + 1, 0, none⟩ = some (.string s') ∧ w'.cell? ⟨w.heap.size + 1, 1, none⟩ = some (.int .i64 q') ∧ w'.cell? ⟨w.heap.size + 1, 2, none⟩ = some (.int .i64 k')) (first | assumption | go_keep)
          (first
            | (go_at_call 14; refine (ref_c _ _ _ _).mono ?_; intro e wk hret; obtain ⟨rfl, hf⟩ := hret
               have A1 := A1.keep hf (fun h => h)
               have A2 := A2.keep hf (fun h => h)
               have a0 := hf.cell (p := ⟨w.heap.size, 0, none⟩) (v := .string s) a0 (fun h => h)
               have a1 := hf.cell (p := ⟨w.heap.size, 1, none⟩) (v := .int .i64 q) a1 (fun h => h)
               have a2 := hf.cell (p := ⟨w.heap.size, 2, none⟩) (v := .int .i64 k) a2 (fun h => h)
               have b0 := hf.cell (p := ⟨w.heap.size + 1, 0, none⟩) (v := .string s') b0 (fun h => h)
               have b1 := hf.cell (p := ⟨w.heap.size + 1, 1, none⟩) (v := .int .i64 q') b1 (fun h => h)
               have b2 := hf.cell (p := ⟨w.heap.size + 1, 2, none⟩) (v := .int .i64 k') b2 (fun h => h)
               have HF := Lib.hid (HF.out.trans hf)
               clear hf)
            | (go_at_call 19; refine (CW.out _).mono ?_; intro e wk hret; obtain ⟨rfl, hf⟩ := hret
               have A1 := A1.keep hf (fun h => h)
               have A2 := A2.keep hf (fun h => h)
               have a0 := hf.cell (p := ⟨w.heap.size, 0, none⟩) (v := .string s) a0 (fun h => h)
               have a1 := hf.cell (p := ⟨w.heap.size, 1, none⟩) (v := .int .i64 q) a1 (fun h => h)
               have a2 := hf.cell (p := ⟨w.heap.size, 2, none⟩) (v := .int .i64 k) a2 (fun h => h)
               have b0 := hf.cell (p := ⟨w.heap.size + 1, 0, none⟩) (v := .string s') b0 (fun h => h)
               have b1 := hf.cell (p := ⟨w.heap.size + 1, 1, none⟩) (v := .int .i64 q') b1 (fun h => h)
               have b2 := hf.cell (p := ⟨w.heap.size + 1, 2, none⟩) (v := .int .i64 k') b2 (fun h => h)
               have HF := Lib.hid (HF.out.trans hf)
               clear hf))
        go_wp2_with fail
        refine (cmp_c _ _ _ _ _ _ _).mono ?_
        intro e w1 hret
        rw [HC.out] at hret
        obtain ⟨rfl, hf⟩ := hret
        have A1 := A1.keep hf (fun h => h)
        have A2 := A2.keep hf (fun h => h)
        obtain ⟨a0, a1, a2⟩ := A1.key
        obtain ⟨b0, b1, b2⟩ := A2.key
        have HF := Lib.hid (HF.out.trans hf)
        clear hf
        go_wp2_with fail
        refine (cmp_c _ _ _ _ _ _ _).mono ?_
        intro e w1 hret
        rw [HN.out] at hret
        obtain ⟨rfl, hf⟩ := hret
        have A1 := A1.keep hf (fun h => h)
        have A2 := A2.keep hf (fun h => h)
        obtain ⟨a0, a1, a2⟩ := A1.key
        obtain ⟨b0, b1, b2⟩ := A2.key
        have HF := Lib.hid (HF.out.trans hf)
        clear hf
        go_wp2_with fail
        refine (CX.out _).mono ?_
        rintro e w1 ⟨x, cx, rfl, hrow, hf⟩
        clear hrow
        have A1 := A1.keep hf (fun h => h)
        have A2 := A2.keep hf (fun h => h)
        obtain ⟨a0, a1, a2⟩ := A1.key
        obtain ⟨b0, b1, b2⟩ := A2.key
        have HF := Lib.hid (HF.out.trans hf)
        clear hf
        go_wp2_with fail
        refine (CY.out _).mono ?_
        rintro e w1 ⟨rfl, hf⟩
        have A1 := A1.keep hf (fun h => h)
        have A2 := A2.keep hf (fun h => h)
        obtain ⟨a0, a1, a2⟩ := A1.key
        obtain ⟨b0, b1, b2⟩ := A2.key
        have HF := Lib.hid (HF.out.trans hf)
        clear hf
        go_wp2_with fail
        refine (CA.out _).mono ?_
        rintro e w1 ⟨rfl, hf⟩
        have A1 := A1.keep hf (fun h => h)
        have A2 := A2.keep hf (fun h => h)
        obtain ⟨a0, a1, a2⟩ := A1.key
        obtain ⟨b0, b1, b2⟩ := A2.key
        have HF := Lib.hid (HF.out.trans hf)
        clear hf
        go_wp2_with fail
        go_ret
        exact ⟨rfl, HF.out⟩
    · have HN := Lib.hid (hn.trans (by omega : -(0 : Int) = 0))
      clear hn
      rcases key with hrt | hrt | hrt
      · as_aux_lemma =>
        obtain ⟨r1, r2⟩ := hrt
        obtain ⟨X, hX⟩ : ∃ X, encK s.data.toList q k = X := ⟨_, rfl⟩
        obtain ⟨Y, hY⟩ : ∃ Y, encK s'.data.toList q' k' = Y := ⟨_, rfl⟩
        have CX := fun w => bytes_yes s q k w r1
        have CY := fun w => bytes_yes s' q' k' w r2
        have hxy : Lib.compareBytes X Y = 0 := by rw [← hX, ← hY]; exact (cmpB_encK _ _ _ _ _ _ _ _ r1 r2).trans HC.out
        have hyx : Lib.compareBytes Y X = 0 := by rw [show Lib.compareBytes Y X = - Lib.compareBytes X Y from cmpB_neg X Y, hxy]; try rfl
        have hsm : (X == Y) = true := by rw [cmpB_zero X Y hxy]; exact beq_self_eq_true _
        rw [hX] at CX
        rw [hY] at CY
        have CX := Lib.hid CX
        have CY := Lib.hid CY
        have H1 := Lib.hid (show decide (Lib.compareBytes X Y < 0) = false by rw [hxy]; rfl)
        have H2 := Lib.hid (show decide (Lib.compareBytes Y X < 0) = false by rw [hyx]; rfl)
        have H3 := Lib.hid hsm
        clear hX hY hxy hyx hsm r1 r2
        go_enter Try.func5, Try.ntmps5
        go_wp2_with fail
        rw [HW.out]
        refine (CS1.out _).mono ?_
        rintro e w1 ⟨rfl, hf⟩
        have A1 := A1.keep hf (fun h => h)
        have A2 := A2.keep hf (fun h => h)
        obtain ⟨a0, a1, a2⟩ := A1.key
        obtain ⟨b0, b1, b2⟩ := A2.key
        have HF := Lib.hid (HF.out.trans hf)
        clear hf
        go_wp2_with fail
        refine (CS2.out _).mono ?_
        rintro e w1 ⟨rfl, hf⟩
        have A1 := A1.keep hf (fun h => h)
        have A2 := A2.keep hf (fun h => h)
        obtain ⟨a0, a1, a2⟩ := A1.key
        obtain ⟨b0, b1, b2⟩ := A2.key
        have HF := Lib.hid (HF.out.trans hf)
        clear hf
        go_wp2_with fail
        have HF := Lib.hid HF.out.drew
        have A1 := show At (World.drew _) _ _ _ from A1
        have A2 := show At (World.drew _) _ _ _ from A2
        go_region_held3 (fun w' => w'.cell? ⟨w.heap.size, 0, none⟩ = some (.string s) ∧ w'.cell? ⟨w.heap.size, 1, none⟩ = some (.int .i64 q) ∧ w'.cell? ⟨w.heap.size, 2, none⟩ = some (.int .i64 k) ∧ w'.cell? ⟨w.heap.size + 1, 0, none⟩ = some (.string s') ∧ w'.cell? ⟨w.heap.size + 1, 1, none⟩ = some (.int .i64 q') ∧ w'.cell? ⟨w.heap.size + 1, 2, none⟩ = some (.int .i64 k')) (first | assumption | go_keep)
          (first
            | (go_at_call 14; refine (ref_c _ _ _ _).mono ?_; intro e wk hret; obtain ⟨rfl, hf⟩ := hret
               have A1 := A1.keep hf (fun h => h)
               have A2 := A2.keep hf (fun h => h)
               have a0 := hf.cell (p := ⟨w.heap.size, 0, none⟩) (v := .string s) a0 (fun h => h)
               have a1 := hf.cell (p := ⟨w.heap.size, 1, none⟩) (v := .int .i64 q) a1 (fun h => h)
               have a2 := hf.cell (p := ⟨w.heap.size, 2, none⟩) (v := .int .i64 k) a2 (fun h => h)
               have b0 := hf.cell (p := ⟨w.heap.size + 1, 0, none⟩) (v := .string s') b0 (fun h => h)
               have b1 := hf.cell (p := ⟨w.heap.size + 1, 1, none⟩) (v := .int .i64 q') b1 (fun h => h)
               have b2 := hf.cell (p := ⟨w.heap.size + 1, 2, none⟩) (v := .int .i64 k') b2 (fun h => h)
               have HF := Lib.hid (HF.out.trans hf)
               clear hf)
            | (go_at_call 19; refine (CW.out _).mono ?_; intro e wk hret; obtain ⟨rfl, hf⟩ := hret
               have A1 := A1.keep hf (fun h => h)
               have A2 := A2.keep hf (fun h => h)
               have a0 := hf.cell (p := ⟨w.heap.size, 0, none⟩) (v := .string s) a0 (fun h => h)
               have a1 := hf.cell (p := ⟨w.heap.size, 1, none⟩) (v := .int .i64 q) a1 (fun h => h)
               have a2 := hf.cell (p := ⟨w.heap.size, 2, none⟩) (v := .int .i64 k) a2 (fun h => h)
               have b0 := hf.cell (p := ⟨w.heap.size + 1, 0, none⟩) (v := .string s') b0 (fun h => h)
               have b1 := hf.cell (p := ⟨w.heap.size + 1, 1, none⟩) (v := .int .i64 q') b1 (fun h => h)
               have b2 := hf.cell (p := ⟨w.heap.size + 1, 2, none⟩) (v := .int .i64 k') b2 (fun h => h)
               have HF := Lib.hid (HF.out.trans hf)
               clear hf))
        go_wp2_with fail
        refine (cmp_c _ _ _ _ _ _ _).mono ?_
        intro e w1 hret
        rw [HC.out] at hret
        obtain ⟨rfl, hf⟩ := hret
        have A1 := A1.keep hf (fun h => h)
        have A2 := A2.keep hf (fun h => h)
        obtain ⟨a0, a1, a2⟩ := A1.key
        obtain ⟨b0, b1, b2⟩ := A2.key
        have HF := Lib.hid (HF.out.trans hf)
        clear hf
        go_wp2_with fail
        refine (cmp_c _ _ _ _ _ _ _).mono ?_
        intro e w1 hret
        rw [HN.out] at hret
        obtain ⟨rfl, hf⟩ := hret
        have A1 := A1.keep hf (fun h => h)
        have A2 := A2.keep hf (fun h => h)
        obtain ⟨a0, a1, a2⟩ := A1.key
        obtain ⟨b0, b1, b2⟩ := A2.key
        have HF := Lib.hid (HF.out.trans hf)
        clear hf
        go_wp2_with fail
        refine (CX.out _).mono ?_
        rintro e w1 ⟨x, cx, rfl, hrow, hf⟩
        obtain ⟨x2, cx2, hv, hcx, hmx, hin⟩ := hrow.form
        simp only [Value.slice.injEq, true_and] at hv
        obtain ⟨rfl, rfl⟩ := hv
        have RX := Lib.hid hin.rd
        clear hin
        clear hrow
        have A1 := A1.keep hf (fun h => h)
        have A2 := A2.keep hf (fun h => h)
        obtain ⟨a0, a1, a2⟩ := A1.key
        obtain ⟨b0, b1, b2⟩ := A2.key
        have HF := Lib.hid (HF.out.trans hf)
        clear hf
        go_wp2_with fail
        refine (CY.out _).mono ?_
        rintro e w1 ⟨y, cy, rfl, hrow, hf⟩
        obtain ⟨y2, cy2, hv, hcy, hmy, hin⟩ := hrow.form
        simp only [Value.slice.injEq, true_and] at hv
        obtain ⟨rfl, rfl⟩ := hv
        have RY := Lib.hid hin.rd
        clear hin
        clear hrow
        have A1 := A1.keep hf (fun h => h)
        have A2 := A2.keep hf (fun h => h)
        obtain ⟨a0, a1, a2⟩ := A1.key
        obtain ⟨b0, b1, b2⟩ := A2.key
        have RX := Lib.hid (Rd.keep RX.out hf)
        have HF := Lib.hid (HF.out.trans hf)
        clear hf
        go_wp2_with fail
        refine (less_c _ _ _ _ _ _ X Y _ rfl rfl RX.out RY.out).mono ?_
        rw [H1.out]
        rintro e w1 ⟨rfl, rfl⟩
        go_wp2_with fail
        refine (less_c _ _ _ _ _ _ Y X _ rfl rfl RY.out RX.out).mono ?_
        rw [H2.out]
        rintro e w1 ⟨rfl, rfl⟩
        go_wp2_with fail
        refine (same_c _ _ _ _ _ _ X Y _ rfl rfl RX.out RY.out).mono ?_
        rw [H3.out]
        rintro e w1 ⟨rfl, rfl⟩
        go_wp2_with fail
        refine (CA.out _).mono ?_
        rintro e w1 ⟨rfl, hf⟩
        have A1 := A1.keep hf (fun h => h)
        have A2 := A2.keep hf (fun h => h)
        obtain ⟨a0, a1, a2⟩ := A1.key
        obtain ⟨b0, b1, b2⟩ := A2.key
        have HF := Lib.hid (HF.out.trans hf)
        clear hf
        go_wp2_with fail
        go_ret
        exact ⟨rfl, HF.out⟩
      · as_aux_lemma =>
        have CX := Lib.hid (fun w => bytes_no s q k w hrt)
        have hY : Rt s'.size q' k' ∨ ¬ Rt s'.size q' k' := Decidable.em _
        go_enter Try.func5, Try.ntmps5
        go_wp2_with fail
        rw [HW.out]
        refine (CS1.out _).mono ?_
        rintro e w1 ⟨rfl, hf⟩
        have A1 := A1.keep hf (fun h => h)
        have A2 := A2.keep hf (fun h => h)
        obtain ⟨a0, a1, a2⟩ := A1.key
        obtain ⟨b0, b1, b2⟩ := A2.key
        have HF := Lib.hid (HF.out.trans hf)
        clear hf
        go_wp2_with fail
        refine (CS2.out _).mono ?_
        rintro e w1 ⟨rfl, hf⟩
        have A1 := A1.keep hf (fun h => h)
        have A2 := A2.keep hf (fun h => h)
        obtain ⟨a0, a1, a2⟩ := A1.key
        obtain ⟨b0, b1, b2⟩ := A2.key
        have HF := Lib.hid (HF.out.trans hf)
        clear hf
        go_wp2_with fail
        have HF := Lib.hid HF.out.drew
        have A1 := show At (World.drew _) _ _ _ from A1
        have A2 := show At (World.drew _) _ _ _ from A2
        go_region_held3 (fun w' => w'.cell? ⟨w.heap.size, 0, none⟩ = some (.string s) ∧ w'.cell? ⟨w.heap.size, 1, none⟩ = some (.int .i64 q) ∧ w'.cell? ⟨w.heap.size, 2, none⟩ = some (.int .i64 k) ∧ w'.cell? ⟨w.heap.size + 1, 0, none⟩ = some (.string s') ∧ w'.cell? ⟨w.heap.size + 1, 1, none⟩ = some (.int .i64 q') ∧ w'.cell? ⟨w.heap.size + 1, 2, none⟩ = some (.int .i64 k')) (first | assumption | go_keep)
          (first
            | (go_at_call 14; refine (ref_c _ _ _ _).mono ?_; intro e wk hret; obtain ⟨rfl, hf⟩ := hret
               have A1 := A1.keep hf (fun h => h)
               have A2 := A2.keep hf (fun h => h)
               have a0 := hf.cell (p := ⟨w.heap.size, 0, none⟩) (v := .string s) a0 (fun h => h)
               have a1 := hf.cell (p := ⟨w.heap.size, 1, none⟩) (v := .int .i64 q) a1 (fun h => h)
               have a2 := hf.cell (p := ⟨w.heap.size, 2, none⟩) (v := .int .i64 k) a2 (fun h => h)
               have b0 := hf.cell (p := ⟨w.heap.size + 1, 0, none⟩) (v := .string s') b0 (fun h => h)
               have b1 := hf.cell (p := ⟨w.heap.size + 1, 1, none⟩) (v := .int .i64 q') b1 (fun h => h)
               have b2 := hf.cell (p := ⟨w.heap.size + 1, 2, none⟩) (v := .int .i64 k') b2 (fun h => h)
               have HF := Lib.hid (HF.out.trans hf)
               clear hf)
            | (go_at_call 19; refine (CW.out _).mono ?_; intro e wk hret; obtain ⟨rfl, hf⟩ := hret
               have A1 := A1.keep hf (fun h => h)
               have A2 := A2.keep hf (fun h => h)
               have a0 := hf.cell (p := ⟨w.heap.size, 0, none⟩) (v := .string s) a0 (fun h => h)
               have a1 := hf.cell (p := ⟨w.heap.size, 1, none⟩) (v := .int .i64 q) a1 (fun h => h)
               have a2 := hf.cell (p := ⟨w.heap.size, 2, none⟩) (v := .int .i64 k) a2 (fun h => h)
               have b0 := hf.cell (p := ⟨w.heap.size + 1, 0, none⟩) (v := .string s') b0 (fun h => h)
               have b1 := hf.cell (p := ⟨w.heap.size + 1, 1, none⟩) (v := .int .i64 q') b1 (fun h => h)
               have b2 := hf.cell (p := ⟨w.heap.size + 1, 2, none⟩) (v := .int .i64 k') b2 (fun h => h)
               have HF := Lib.hid (HF.out.trans hf)
               clear hf))
        go_wp2_with fail
        refine (cmp_c _ _ _ _ _ _ _).mono ?_
        intro e w1 hret
        rw [HC.out] at hret
        obtain ⟨rfl, hf⟩ := hret
        have A1 := A1.keep hf (fun h => h)
        have A2 := A2.keep hf (fun h => h)
        obtain ⟨a0, a1, a2⟩ := A1.key
        obtain ⟨b0, b1, b2⟩ := A2.key
        have HF := Lib.hid (HF.out.trans hf)
        clear hf
        go_wp2_with fail
        refine (cmp_c _ _ _ _ _ _ _).mono ?_
        intro e w1 hret
        rw [HN.out] at hret
        obtain ⟨rfl, hf⟩ := hret
        have A1 := A1.keep hf (fun h => h)
        have A2 := A2.keep hf (fun h => h)
        obtain ⟨a0, a1, a2⟩ := A1.key
        obtain ⟨b0, b1, b2⟩ := A2.key
        have HF := Lib.hid (HF.out.trans hf)
        clear hf
        go_wp2_with fail
        refine (CX.out _).mono ?_
        rintro e w1 ⟨rfl, hf⟩
        have A1 := A1.keep hf (fun h => h)
        have A2 := A2.keep hf (fun h => h)
        obtain ⟨a0, a1, a2⟩ := A1.key
        obtain ⟨b0, b1, b2⟩ := A2.key
        have HF := Lib.hid (HF.out.trans hf)
        clear hf
        go_wp2_with fail
        rcases hY with r2 | r2
        · obtain ⟨Y, hY⟩ : ∃ Y, encK s'.data.toList q' k' = Y := ⟨_, rfl⟩
          have CY := fun w => bytes_yes s' q' k' w r2
          rw [hY] at CY
          clear r2 hY
          refine (CY _).mono ?_
          rintro e w1 ⟨y, cy, rfl, hrow, hf⟩
          clear hrow
          have A1 := A1.keep hf (fun h => h)
          have A2 := A2.keep hf (fun h => h)
          obtain ⟨a0, a1, a2⟩ := A1.key
          obtain ⟨b0, b1, b2⟩ := A2.key
          have HF := Lib.hid (HF.out.trans hf)
          clear hf
          go_wp2_with fail
          refine (CA.out _).mono ?_
          rintro e w1 ⟨rfl, hf⟩
          have A1 := A1.keep hf (fun h => h)
          have A2 := A2.keep hf (fun h => h)
          obtain ⟨a0, a1, a2⟩ := A1.key
          obtain ⟨b0, b1, b2⟩ := A2.key
          have HF := Lib.hid (HF.out.trans hf)
          clear hf
          go_wp2_with fail
          go_ret
          exact ⟨rfl, HF.out⟩
        · have CY := fun w => bytes_no s' q' k' w r2
          clear r2
          refine (CY _).mono ?_
          rintro e w1 ⟨rfl, hf⟩
          have A1 := A1.keep hf (fun h => h)
          have A2 := A2.keep hf (fun h => h)
          obtain ⟨a0, a1, a2⟩ := A1.key
          obtain ⟨b0, b1, b2⟩ := A2.key
          have HF := Lib.hid (HF.out.trans hf)
          clear hf
          go_wp2_with fail
          refine (CA.out _).mono ?_
          rintro e w1 ⟨rfl, hf⟩
          have A1 := A1.keep hf (fun h => h)
          have A2 := A2.keep hf (fun h => h)
          obtain ⟨a0, a1, a2⟩ := A1.key
          obtain ⟨b0, b1, b2⟩ := A2.key
          have HF := Lib.hid (HF.out.trans hf)
          clear hf
          go_wp2_with fail
          go_ret
          exact ⟨rfl, HF.out⟩
      · as_aux_lemma =>
        obtain ⟨r1, r2⟩ := hrt
        obtain ⟨X, hX⟩ : ∃ X, encK s.data.toList q k = X := ⟨_, rfl⟩
        have CX := fun w => bytes_yes s q k w r1
        rw [hX] at CX
        have CX := Lib.hid CX
        have CY := Lib.hid (fun w => bytes_no s' q' k' w r2)
        clear hX r1 r2
        go_enter Try.func5, Try.ntmps5
        go_wp2_with fail
        rw [HW.out]
        refine (CS1.out _).mono ?_
        rintro e w1 ⟨rfl, hf⟩
        have A1 := A1.keep hf (fun h => h)
        have A2 := A2.keep hf (fun h => h)
        obtain ⟨a0, a1, a2⟩ := A1.key
        obtain ⟨b0, b1, b2⟩ := A2.key
        have HF := Lib.hid (HF.out.trans hf)
        clear hf
        go_wp2_with fail
        refine (CS2.out _).mono ?_
        rintro e w1 ⟨rfl, hf⟩
        have A1 := A1.keep hf (fun h => h)
        have A2 := A2.keep hf (fun h => h)
        obtain ⟨a0, a1, a2⟩ := A1.key
        obtain ⟨b0, b1, b2⟩ := A2.key
        have HF := Lib.hid (HF.out.trans hf)
        clear hf
        go_wp2_with fail
        have HF := Lib.hid HF.out.drew
        have A1 := show At (World.drew _) _ _ _ from A1
        have A2 := show At (World.drew _) _ _ _ from A2
        go_region_held3 (fun w' => w'.cell? ⟨w.heap.size, 0, none⟩ = some (.string s) ∧ w'.cell? ⟨w.heap.size, 1, none⟩ = some (.int .i64 q) ∧ w'.cell? ⟨w.heap.size, 2, none⟩ = some (.int .i64 k) ∧ w'.cell? ⟨w.heap.size + 1, 0, none⟩ = some (.string s') ∧ w'.cell? ⟨w.heap.size + 1, 1, none⟩ = some (.int .i64 q') ∧ w'.cell? ⟨w.heap.size + 1, 2, none⟩ = some (.int .i64 k')) (first | assumption | go_keep)
          (first
            | (go_at_call 14; refine (ref_c _ _ _ _).mono ?_; intro e wk hret; obtain ⟨rfl, hf⟩ := hret
               have A1 := A1.keep hf (fun h => h)
               have A2 := A2.keep hf (fun h => h)
               have a0 := hf.cell (p := ⟨w.heap.size, 0, none⟩) (v := .string s) a0 (fun h => h)
               have a1 := hf.cell (p := ⟨w.heap.size, 1, none⟩) (v := .int .i64 q) a1 (fun h => h)
               have a2 := hf.cell (p := ⟨w.heap.size, 2, none⟩) (v := .int .i64 k) a2 (fun h => h)
               have b0 := hf.cell (p := ⟨w.heap.size + 1, 0, none⟩) (v := .string s') b0 (fun h => h)
               have b1 := hf.cell (p := ⟨w.heap.size + 1, 1, none⟩) (v := .int .i64 q') b1 (fun h => h)
               have b2 := hf.cell (p := ⟨w.heap.size + 1, 2, none⟩) (v := .int .i64 k') b2 (fun h => h)
               have HF := Lib.hid (HF.out.trans hf)
               clear hf)
            | (go_at_call 19; refine (CW.out _).mono ?_; intro e wk hret; obtain ⟨rfl, hf⟩ := hret
               have A1 := A1.keep hf (fun h => h)
               have A2 := A2.keep hf (fun h => h)
               have a0 := hf.cell (p := ⟨w.heap.size, 0, none⟩) (v := .string s) a0 (fun h => h)
               have a1 := hf.cell (p := ⟨w.heap.size, 1, none⟩) (v := .int .i64 q) a1 (fun h => h)
               have a2 := hf.cell (p := ⟨w.heap.size, 2, none⟩) (v := .int .i64 k) a2 (fun h => h)
               have b0 := hf.cell (p := ⟨w.heap.size + 1, 0, none⟩) (v := .string s') b0 (fun h => h)
               have b1 := hf.cell (p := ⟨w.heap.size + 1, 1, none⟩) (v := .int .i64 q') b1 (fun h => h)
               have b2 := hf.cell (p := ⟨w.heap.size + 1, 2, none⟩) (v := .int .i64 k') b2 (fun h => h)
               have HF := Lib.hid (HF.out.trans hf)
               clear hf))
        go_wp2_with fail
        refine (cmp_c _ _ _ _ _ _ _).mono ?_
        intro e w1 hret
        rw [HC.out] at hret
        obtain ⟨rfl, hf⟩ := hret
        have A1 := A1.keep hf (fun h => h)
        have A2 := A2.keep hf (fun h => h)
        obtain ⟨a0, a1, a2⟩ := A1.key
        obtain ⟨b0, b1, b2⟩ := A2.key
        have HF := Lib.hid (HF.out.trans hf)
        clear hf
        go_wp2_with fail
        refine (cmp_c _ _ _ _ _ _ _).mono ?_
        intro e w1 hret
        rw [HN.out] at hret
        obtain ⟨rfl, hf⟩ := hret
        have A1 := A1.keep hf (fun h => h)
        have A2 := A2.keep hf (fun h => h)
        obtain ⟨a0, a1, a2⟩ := A1.key
        obtain ⟨b0, b1, b2⟩ := A2.key
        have HF := Lib.hid (HF.out.trans hf)
        clear hf
        go_wp2_with fail
        refine (CX.out _).mono ?_
        rintro e w1 ⟨x, cx, rfl, hrow, hf⟩
        clear hrow
        have A1 := A1.keep hf (fun h => h)
        have A2 := A2.keep hf (fun h => h)
        obtain ⟨a0, a1, a2⟩ := A1.key
        obtain ⟨b0, b1, b2⟩ := A2.key
        have HF := Lib.hid (HF.out.trans hf)
        clear hf
        go_wp2_with fail
        refine (CY.out _).mono ?_
        rintro e w1 ⟨rfl, hf⟩
        have A1 := A1.keep hf (fun h => h)
        have A2 := A2.keep hf (fun h => h)
        obtain ⟨a0, a1, a2⟩ := A1.key
        obtain ⟨b0, b1, b2⟩ := A2.key
        have HF := Lib.hid (HF.out.trans hf)
        clear hf
        go_wp2_with fail
        refine (CA.out _).mono ?_
        rintro e w1 ⟨rfl, hf⟩
        have A1 := A1.keep hf (fun h => h)
        have A2 := A2.keep hf (fun h => h)
        obtain ⟨a0, a1, a2⟩ := A1.key
        obtain ⟨b0, b1, b2⟩ := A2.key
        have HF := Lib.hid (HF.out.trans hf)
        clear hf
        go_wp2_with fail
        go_ret
        exact ⟨rfl, HF.out⟩
    · have HN := Lib.hid (hn.trans (by omega : -(1 : Int) = -1))
      clear hn
      rcases key with hrt | hrt | hrt
      · as_aux_lemma =>
        obtain ⟨r1, r2⟩ := hrt
        obtain ⟨X, hX⟩ : ∃ X, encK s.data.toList q k = X := ⟨_, rfl⟩
        obtain ⟨Y, hY⟩ : ∃ Y, encK s'.data.toList q' k' = Y := ⟨_, rfl⟩
        have CX := fun w => bytes_yes s q k w r1
        have CY := fun w => bytes_yes s' q' k' w r2
        have hxy : Lib.compareBytes X Y = 1 := by rw [← hX, ← hY]; exact (cmpB_encK _ _ _ _ _ _ _ _ r1 r2).trans HC.out
        have hyx : Lib.compareBytes Y X = -1 := by rw [show Lib.compareBytes Y X = - Lib.compareBytes X Y from cmpB_neg X Y, hxy]; try rfl
        have hsm : (X == Y) = false := by rw [beq_eq_false_iff_ne]; rintro rfl; rw [show Lib.compareBytes X X = 0 from cmpB_self X] at hxy; exact absurd hxy (by decide)
        rw [hX] at CX
        rw [hY] at CY
        have CX := Lib.hid CX
        have CY := Lib.hid CY
        have H1 := Lib.hid (show decide (Lib.compareBytes X Y < 0) = false by rw [hxy]; rfl)
        have H2 := Lib.hid (show decide (Lib.compareBytes Y X < 0) = true by rw [hyx]; rfl)
        have H3 := Lib.hid hsm
        clear hX hY hxy hyx hsm r1 r2
        go_enter Try.func5, Try.ntmps5
        go_wp2_with fail
        rw [HW.out]
        refine (CS1.out _).mono ?_
        rintro e w1 ⟨rfl, hf⟩
        have A1 := A1.keep hf (fun h => h)
        have A2 := A2.keep hf (fun h => h)
        obtain ⟨a0, a1, a2⟩ := A1.key
        obtain ⟨b0, b1, b2⟩ := A2.key
        have HF := Lib.hid (HF.out.trans hf)
        clear hf
        go_wp2_with fail
        refine (CS2.out _).mono ?_
        rintro e w1 ⟨rfl, hf⟩
        have A1 := A1.keep hf (fun h => h)
        have A2 := A2.keep hf (fun h => h)
        obtain ⟨a0, a1, a2⟩ := A1.key
        obtain ⟨b0, b1, b2⟩ := A2.key
        have HF := Lib.hid (HF.out.trans hf)
        clear hf
        go_wp2_with fail
        have HF := Lib.hid HF.out.drew
        have A1 := show At (World.drew _) _ _ _ from A1
        have A2 := show At (World.drew _) _ _ _ from A2
        go_region_held3 (fun w' => w'.cell? ⟨w.heap.size, 0, none⟩ = some (.string s) ∧ w'.cell? ⟨w.heap.size, 1, none⟩ = some (.int .i64 q) ∧ w'.cell? ⟨w.heap.size, 2, none⟩ = some (.int .i64 k) ∧ w'.cell? ⟨w.heap.size + 1, 0, none⟩ = some (.string s') ∧ w'.cell? ⟨w.heap.size + 1, 1, none⟩ = some (.int .i64 q') ∧ w'.cell? ⟨w.heap.size + 1, 2, none⟩ = some (.int .i64 k')) (first | assumption | go_keep)
          (first
            | (go_at_call 14; refine (ref_c _ _ _ _).mono ?_; intro e wk hret; obtain ⟨rfl, hf⟩ := hret
               have A1 := A1.keep hf (fun h => h)
               have A2 := A2.keep hf (fun h => h)
               have a0 := hf.cell (p := ⟨w.heap.size, 0, none⟩) (v := .string s) a0 (fun h => h)
               have a1 := hf.cell (p := ⟨w.heap.size, 1, none⟩) (v := .int .i64 q) a1 (fun h => h)
               have a2 := hf.cell (p := ⟨w.heap.size, 2, none⟩) (v := .int .i64 k) a2 (fun h => h)
               have b0 := hf.cell (p := ⟨w.heap.size + 1, 0, none⟩) (v := .string s') b0 (fun h => h)
               have b1 := hf.cell (p := ⟨w.heap.size + 1, 1, none⟩) (v := .int .i64 q') b1 (fun h => h)
               have b2 := hf.cell (p := ⟨w.heap.size + 1, 2, none⟩) (v := .int .i64 k') b2 (fun h => h)
               have HF := Lib.hid (HF.out.trans hf)
               clear hf)
            | (go_at_call 19; refine (CW.out _).mono ?_; intro e wk hret; obtain ⟨rfl, hf⟩ := hret
               have A1 := A1.keep hf (fun h => h)
               have A2 := A2.keep hf (fun h => h)
               have a0 := hf.cell (p := ⟨w.heap.size, 0, none⟩) (v := .string s) a0 (fun h => h)
               have a1 := hf.cell (p := ⟨w.heap.size, 1, none⟩) (v := .int .i64 q) a1 (fun h => h)
               have a2 := hf.cell (p := ⟨w.heap.size, 2, none⟩) (v := .int .i64 k) a2 (fun h => h)
               have b0 := hf.cell (p := ⟨w.heap.size + 1, 0, none⟩) (v := .string s') b0 (fun h => h)
               have b1 := hf.cell (p := ⟨w.heap.size + 1, 1, none⟩) (v := .int .i64 q') b1 (fun h => h)
               have b2 := hf.cell (p := ⟨w.heap.size + 1, 2, none⟩) (v := .int .i64 k') b2 (fun h => h)
               have HF := Lib.hid (HF.out.trans hf)
               clear hf))
        go_wp2_with fail
        refine (cmp_c _ _ _ _ _ _ _).mono ?_
        intro e w1 hret
        rw [HC.out] at hret
        obtain ⟨rfl, hf⟩ := hret
        have A1 := A1.keep hf (fun h => h)
        have A2 := A2.keep hf (fun h => h)
        obtain ⟨a0, a1, a2⟩ := A1.key
        obtain ⟨b0, b1, b2⟩ := A2.key
        have HF := Lib.hid (HF.out.trans hf)
        clear hf
        go_wp2_with fail
        refine (cmp_c _ _ _ _ _ _ _).mono ?_
        intro e w1 hret
        rw [HN.out] at hret
        obtain ⟨rfl, hf⟩ := hret
        have A1 := A1.keep hf (fun h => h)
        have A2 := A2.keep hf (fun h => h)
        obtain ⟨a0, a1, a2⟩ := A1.key
        obtain ⟨b0, b1, b2⟩ := A2.key
        have HF := Lib.hid (HF.out.trans hf)
        clear hf
        go_wp2_with fail
        refine (CX.out _).mono ?_
        rintro e w1 ⟨x, cx, rfl, hrow, hf⟩
        obtain ⟨x2, cx2, hv, hcx, hmx, hin⟩ := hrow.form
        simp only [Value.slice.injEq, true_and] at hv
        obtain ⟨rfl, rfl⟩ := hv
        have RX := Lib.hid hin.rd
        clear hin
        clear hrow
        have A1 := A1.keep hf (fun h => h)
        have A2 := A2.keep hf (fun h => h)
        obtain ⟨a0, a1, a2⟩ := A1.key
        obtain ⟨b0, b1, b2⟩ := A2.key
        have HF := Lib.hid (HF.out.trans hf)
        clear hf
        go_wp2_with fail
        refine (CY.out _).mono ?_
        rintro e w1 ⟨y, cy, rfl, hrow, hf⟩
        obtain ⟨y2, cy2, hv, hcy, hmy, hin⟩ := hrow.form
        simp only [Value.slice.injEq, true_and] at hv
        obtain ⟨rfl, rfl⟩ := hv
        have RY := Lib.hid hin.rd
        clear hin
        clear hrow
        have A1 := A1.keep hf (fun h => h)
        have A2 := A2.keep hf (fun h => h)
        obtain ⟨a0, a1, a2⟩ := A1.key
        obtain ⟨b0, b1, b2⟩ := A2.key
        have RX := Lib.hid (Rd.keep RX.out hf)
        have HF := Lib.hid (HF.out.trans hf)
        clear hf
        go_wp2_with fail
        refine (less_c _ _ _ _ _ _ X Y _ rfl rfl RX.out RY.out).mono ?_
        rw [H1.out]
        rintro e w1 ⟨rfl, rfl⟩
        go_wp2_with fail
        refine (less_c _ _ _ _ _ _ Y X _ rfl rfl RY.out RX.out).mono ?_
        rw [H2.out]
        rintro e w1 ⟨rfl, rfl⟩
        go_wp2_with fail
        refine (same_c _ _ _ _ _ _ X Y _ rfl rfl RX.out RY.out).mono ?_
        rw [H3.out]
        rintro e w1 ⟨rfl, rfl⟩
        go_wp2_with fail
        refine (CA.out _).mono ?_
        rintro e w1 ⟨rfl, hf⟩
        have A1 := A1.keep hf (fun h => h)
        have A2 := A2.keep hf (fun h => h)
        obtain ⟨a0, a1, a2⟩ := A1.key
        obtain ⟨b0, b1, b2⟩ := A2.key
        have HF := Lib.hid (HF.out.trans hf)
        clear hf
        go_wp2_with fail
        go_ret
        exact ⟨rfl, HF.out⟩
      · as_aux_lemma =>
        have CX := Lib.hid (fun w => bytes_no s q k w hrt)
        have hY : Rt s'.size q' k' ∨ ¬ Rt s'.size q' k' := Decidable.em _
        go_enter Try.func5, Try.ntmps5
        go_wp2_with fail
        rw [HW.out]
        refine (CS1.out _).mono ?_
        rintro e w1 ⟨rfl, hf⟩
        have A1 := A1.keep hf (fun h => h)
        have A2 := A2.keep hf (fun h => h)
        obtain ⟨a0, a1, a2⟩ := A1.key
        obtain ⟨b0, b1, b2⟩ := A2.key
        have HF := Lib.hid (HF.out.trans hf)
        clear hf
        go_wp2_with fail
        refine (CS2.out _).mono ?_
        rintro e w1 ⟨rfl, hf⟩
        have A1 := A1.keep hf (fun h => h)
        have A2 := A2.keep hf (fun h => h)
        obtain ⟨a0, a1, a2⟩ := A1.key
        obtain ⟨b0, b1, b2⟩ := A2.key
        have HF := Lib.hid (HF.out.trans hf)
        clear hf
        go_wp2_with fail
        have HF := Lib.hid HF.out.drew
        have A1 := show At (World.drew _) _ _ _ from A1
        have A2 := show At (World.drew _) _ _ _ from A2
        go_region_held3 (fun w' => w'.cell? ⟨w.heap.size, 0, none⟩ = some (.string s) ∧ w'.cell? ⟨w.heap.size, 1, none⟩ = some (.int .i64 q) ∧ w'.cell? ⟨w.heap.size, 2, none⟩ = some (.int .i64 k) ∧ w'.cell? ⟨w.heap.size + 1, 0, none⟩ = some (.string s') ∧ w'.cell? ⟨w.heap.size + 1, 1, none⟩ = some (.int .i64 q') ∧ w'.cell? ⟨w.heap.size + 1, 2, none⟩ = some (.int .i64 k')) (first | assumption | go_keep)
          (first
            | (go_at_call 14; refine (ref_c _ _ _ _).mono ?_; intro e wk hret; obtain ⟨rfl, hf⟩ := hret
               have A1 := A1.keep hf (fun h => h)
               have A2 := A2.keep hf (fun h => h)
               have a0 := hf.cell (p := ⟨w.heap.size, 0, none⟩) (v := .string s) a0 (fun h => h)
               have a1 := hf.cell (p := ⟨w.heap.size, 1, none⟩) (v := .int .i64 q) a1 (fun h => h)
               have a2 := hf.cell (p := ⟨w.heap.size, 2, none⟩) (v := .int .i64 k) a2 (fun h => h)
               have b0 := hf.cell (p := ⟨w.heap.size + 1, 0, none⟩) (v := .string s') b0 (fun h => h)
               have b1 := hf.cell (p := ⟨w.heap.size + 1, 1, none⟩) (v := .int .i64 q') b1 (fun h => h)
               have b2 := hf.cell (p := ⟨w.heap.size + 1, 2, none⟩) (v := .int .i64 k') b2 (fun h => h)
               have HF := Lib.hid (HF.out.trans hf)
               clear hf)
            | (go_at_call 19; refine (CW.out _).mono ?_; intro e wk hret; obtain ⟨rfl, hf⟩ := hret
               have A1 := A1.keep hf (fun h => h)
               have A2 := A2.keep hf (fun h => h)
               have a0 := hf.cell (p := ⟨w.heap.size, 0, none⟩) (v := .string s) a0 (fun h => h)
               have a1 := hf.cell (p := ⟨w.heap.size, 1, none⟩) (v := .int .i64 q) a1 (fun h => h)
               have a2 := hf.cell (p := ⟨w.heap.size, 2, none⟩) (v := .int .i64 k) a2 (fun h => h)
               have b0 := hf.cell (p := ⟨w.heap.size + 1, 0, none⟩) (v := .string s') b0 (fun h => h)
               have b1 := hf.cell (p := ⟨w.heap.size + 1, 1, none⟩) (v := .int .i64 q') b1 (fun h => h)
               have b2 := hf.cell (p := ⟨w.heap.size + 1, 2, none⟩) (v := .int .i64 k') b2 (fun h => h)
               have HF := Lib.hid (HF.out.trans hf)
               clear hf))
        go_wp2_with fail
        refine (cmp_c _ _ _ _ _ _ _).mono ?_
        intro e w1 hret
        rw [HC.out] at hret
        obtain ⟨rfl, hf⟩ := hret
        have A1 := A1.keep hf (fun h => h)
        have A2 := A2.keep hf (fun h => h)
        obtain ⟨a0, a1, a2⟩ := A1.key
        obtain ⟨b0, b1, b2⟩ := A2.key
        have HF := Lib.hid (HF.out.trans hf)
        clear hf
        go_wp2_with fail
        refine (cmp_c _ _ _ _ _ _ _).mono ?_
        intro e w1 hret
        rw [HN.out] at hret
        obtain ⟨rfl, hf⟩ := hret
        have A1 := A1.keep hf (fun h => h)
        have A2 := A2.keep hf (fun h => h)
        obtain ⟨a0, a1, a2⟩ := A1.key
        obtain ⟨b0, b1, b2⟩ := A2.key
        have HF := Lib.hid (HF.out.trans hf)
        clear hf
        go_wp2_with fail
        refine (CX.out _).mono ?_
        rintro e w1 ⟨rfl, hf⟩
        have A1 := A1.keep hf (fun h => h)
        have A2 := A2.keep hf (fun h => h)
        obtain ⟨a0, a1, a2⟩ := A1.key
        obtain ⟨b0, b1, b2⟩ := A2.key
        have HF := Lib.hid (HF.out.trans hf)
        clear hf
        go_wp2_with fail
        rcases hY with r2 | r2
        · obtain ⟨Y, hY⟩ : ∃ Y, encK s'.data.toList q' k' = Y := ⟨_, rfl⟩
          have CY := fun w => bytes_yes s' q' k' w r2
          rw [hY] at CY
          clear r2 hY
          refine (CY _).mono ?_
          rintro e w1 ⟨y, cy, rfl, hrow, hf⟩
          clear hrow
          have A1 := A1.keep hf (fun h => h)
          have A2 := A2.keep hf (fun h => h)
          obtain ⟨a0, a1, a2⟩ := A1.key
          obtain ⟨b0, b1, b2⟩ := A2.key
          have HF := Lib.hid (HF.out.trans hf)
          clear hf
          go_wp2_with fail
          refine (CA.out _).mono ?_
          rintro e w1 ⟨rfl, hf⟩
          have A1 := A1.keep hf (fun h => h)
          have A2 := A2.keep hf (fun h => h)
          obtain ⟨a0, a1, a2⟩ := A1.key
          obtain ⟨b0, b1, b2⟩ := A2.key
          have HF := Lib.hid (HF.out.trans hf)
          clear hf
          go_wp2_with fail
          go_ret
          exact ⟨rfl, HF.out⟩
        · have CY := fun w => bytes_no s' q' k' w r2
          clear r2
          refine (CY _).mono ?_
          rintro e w1 ⟨rfl, hf⟩
          have A1 := A1.keep hf (fun h => h)
          have A2 := A2.keep hf (fun h => h)
          obtain ⟨a0, a1, a2⟩ := A1.key
          obtain ⟨b0, b1, b2⟩ := A2.key
          have HF := Lib.hid (HF.out.trans hf)
          clear hf
          go_wp2_with fail
          refine (CA.out _).mono ?_
          rintro e w1 ⟨rfl, hf⟩
          have A1 := A1.keep hf (fun h => h)
          have A2 := A2.keep hf (fun h => h)
          obtain ⟨a0, a1, a2⟩ := A1.key
          obtain ⟨b0, b1, b2⟩ := A2.key
          have HF := Lib.hid (HF.out.trans hf)
          clear hf
          go_wp2_with fail
          go_ret
          exact ⟨rfl, HF.out⟩
      · as_aux_lemma =>
        obtain ⟨r1, r2⟩ := hrt
        obtain ⟨X, hX⟩ : ∃ X, encK s.data.toList q k = X := ⟨_, rfl⟩
        have CX := fun w => bytes_yes s q k w r1
        rw [hX] at CX
        have CX := Lib.hid CX
        have CY := Lib.hid (fun w => bytes_no s' q' k' w r2)
        clear hX r1 r2
        go_enter Try.func5, Try.ntmps5
        go_wp2_with fail
        rw [HW.out]
        refine (CS1.out _).mono ?_
        rintro e w1 ⟨rfl, hf⟩
        have A1 := A1.keep hf (fun h => h)
        have A2 := A2.keep hf (fun h => h)
        obtain ⟨a0, a1, a2⟩ := A1.key
        obtain ⟨b0, b1, b2⟩ := A2.key
        have HF := Lib.hid (HF.out.trans hf)
        clear hf
        go_wp2_with fail
        refine (CS2.out _).mono ?_
        rintro e w1 ⟨rfl, hf⟩
        have A1 := A1.keep hf (fun h => h)
        have A2 := A2.keep hf (fun h => h)
        obtain ⟨a0, a1, a2⟩ := A1.key
        obtain ⟨b0, b1, b2⟩ := A2.key
        have HF := Lib.hid (HF.out.trans hf)
        clear hf
        go_wp2_with fail
        have HF := Lib.hid HF.out.drew
        have A1 := show At (World.drew _) _ _ _ from A1
        have A2 := show At (World.drew _) _ _ _ from A2
        go_region_held3 (fun w' => w'.cell? ⟨w.heap.size, 0, none⟩ = some (.string s) ∧ w'.cell? ⟨w.heap.size, 1, none⟩ = some (.int .i64 q) ∧ w'.cell? ⟨w.heap.size, 2, none⟩ = some (.int .i64 k) ∧ w'.cell? ⟨w.heap.size + 1, 0, none⟩ = some (.string s') ∧ w'.cell? ⟨w.heap.size + 1, 1, none⟩ = some (.int .i64 q') ∧ w'.cell? ⟨w.heap.size + 1, 2, none⟩ = some (.int .i64 k')) (first | assumption | go_keep)
          (first
            | (go_at_call 14; refine (ref_c _ _ _ _).mono ?_; intro e wk hret; obtain ⟨rfl, hf⟩ := hret
               have A1 := A1.keep hf (fun h => h)
               have A2 := A2.keep hf (fun h => h)
               have a0 := hf.cell (p := ⟨w.heap.size, 0, none⟩) (v := .string s) a0 (fun h => h)
               have a1 := hf.cell (p := ⟨w.heap.size, 1, none⟩) (v := .int .i64 q) a1 (fun h => h)
               have a2 := hf.cell (p := ⟨w.heap.size, 2, none⟩) (v := .int .i64 k) a2 (fun h => h)
               have b0 := hf.cell (p := ⟨w.heap.size + 1, 0, none⟩) (v := .string s') b0 (fun h => h)
               have b1 := hf.cell (p := ⟨w.heap.size + 1, 1, none⟩) (v := .int .i64 q') b1 (fun h => h)
               have b2 := hf.cell (p := ⟨w.heap.size + 1, 2, none⟩) (v := .int .i64 k') b2 (fun h => h)
               have HF := Lib.hid (HF.out.trans hf)
               clear hf)
            | (go_at_call 19; refine (CW.out _).mono ?_; intro e wk hret; obtain ⟨rfl, hf⟩ := hret
               have A1 := A1.keep hf (fun h => h)
               have A2 := A2.keep hf (fun h => h)
               have a0 := hf.cell (p := ⟨w.heap.size, 0, none⟩) (v := .string s) a0 (fun h => h)
               have a1 := hf.cell (p := ⟨w.heap.size, 1, none⟩) (v := .int .i64 q) a1 (fun h => h)
               have a2 := hf.cell (p := ⟨w.heap.size, 2, none⟩) (v := .int .i64 k) a2 (fun h => h)
               have b0 := hf.cell (p := ⟨w.heap.size + 1, 0, none⟩) (v := .string s') b0 (fun h => h)
               have b1 := hf.cell (p := ⟨w.heap.size + 1, 1, none⟩) (v := .int .i64 q') b1 (fun h => h)
               have b2 := hf.cell (p := ⟨w.heap.size + 1, 2, none⟩) (v := .int .i64 k') b2 (fun h => h)
               have HF := Lib.hid (HF.out.trans hf)
               clear hf))
        go_wp2_with fail
        refine (cmp_c _ _ _ _ _ _ _).mono ?_
        intro e w1 hret
        rw [HC.out] at hret
        obtain ⟨rfl, hf⟩ := hret
        have A1 := A1.keep hf (fun h => h)
        have A2 := A2.keep hf (fun h => h)
        obtain ⟨a0, a1, a2⟩ := A1.key
        obtain ⟨b0, b1, b2⟩ := A2.key
        have HF := Lib.hid (HF.out.trans hf)
        clear hf
        go_wp2_with fail
        refine (cmp_c _ _ _ _ _ _ _).mono ?_
        intro e w1 hret
        rw [HN.out] at hret
        obtain ⟨rfl, hf⟩ := hret
        have A1 := A1.keep hf (fun h => h)
        have A2 := A2.keep hf (fun h => h)
        obtain ⟨a0, a1, a2⟩ := A1.key
        obtain ⟨b0, b1, b2⟩ := A2.key
        have HF := Lib.hid (HF.out.trans hf)
        clear hf
        go_wp2_with fail
        refine (CX.out _).mono ?_
        rintro e w1 ⟨x, cx, rfl, hrow, hf⟩
        clear hrow
        have A1 := A1.keep hf (fun h => h)
        have A2 := A2.keep hf (fun h => h)
        obtain ⟨a0, a1, a2⟩ := A1.key
        obtain ⟨b0, b1, b2⟩ := A2.key
        have HF := Lib.hid (HF.out.trans hf)
        clear hf
        go_wp2_with fail
        refine (CY.out _).mono ?_
        rintro e w1 ⟨rfl, hf⟩
        have A1 := A1.keep hf (fun h => h)
        have A2 := A2.keep hf (fun h => h)
        obtain ⟨a0, a1, a2⟩ := A1.key
        obtain ⟨b0, b1, b2⟩ := A2.key
        have HF := Lib.hid (HF.out.trans hf)
        clear hf
        go_wp2_with fail
        refine (CA.out _).mono ?_
        rintro e w1 ⟨rfl, hf⟩
        have A1 := A1.keep hf (fun h => h)
        have A2 := A2.keep hf (fun h => h)
        obtain ⟨a0, a1, a2⟩ := A1.key
        obtain ⟨b0, b1, b2⟩ := A2.key
        have HF := Lib.hid (HF.out.trans hf)
        clear hf
        go_wp2_with fail
        go_ret
        exact ⟨rfl, HF.out⟩
  · have g' : ¬ (s.size : Int) ≤ 300 ∨ ((s.size : Int) ≤ 300 ∧ ¬ (s'.size : Int) ≤ 300) := by omega
    clear g
    rcases g' with g1 | ⟨g1, g2⟩
    · rw [decide_eq_false g1] at CS1
      have CS1 := Lib.hid CS1
      clear CS2
      go_enter Try.func5, Try.ntmps5
      go_wp2_with fail
      rw [HW.out]
      refine (CS1.out _).mono ?_
      rintro e w1 ⟨rfl, hf⟩
      have A1 := A1.keep hf (fun h => h)
      have A2 := A2.keep hf (fun h => h)
      obtain ⟨a0, a1, a2⟩ := A1.key
      obtain ⟨b0, b1, b2⟩ := A2.key
      have HF := Lib.hid (HF.out.trans hf)
      clear hf
      go_wp2_with fail
      refine (CA.out _).mono ?_
      rintro e w1 ⟨rfl, hf⟩
      have A1 := A1.keep hf (fun h => h)
      have A2 := A2.keep hf (fun h => h)
      obtain ⟨a0, a1, a2⟩ := A1.key
      obtain ⟨b0, b1, b2⟩ := A2.key
      have HF := Lib.hid (HF.out.trans hf)
      clear hf
      go_wp2_with fail
      go_ret
      exact ⟨rfl, HF.out⟩
    · rw [decide_eq_true g1] at CS1
      rw [decide_eq_false g2] at CS2
      have CS1 := Lib.hid CS1
      have CS2 := Lib.hid CS2
      go_enter Try.func5, Try.ntmps5
      go_wp2_with fail
      rw [HW.out]
      refine (CS1.out _).mono ?_
      rintro e w1 ⟨rfl, hf⟩
      have A1 := A1.keep hf (fun h => h)
      have A2 := A2.keep hf (fun h => h)
      obtain ⟨a0, a1, a2⟩ := A1.key
      obtain ⟨b0, b1, b2⟩ := A2.key
      have HF := Lib.hid (HF.out.trans hf)
      clear hf
      go_wp2_with fail
      refine (CS2.out _).mono ?_
      rintro e w1 ⟨rfl, hf⟩
      have A1 := A1.keep hf (fun h => h)
      have A2 := A2.keep hf (fun h => h)
      obtain ⟨a0, a1, a2⟩ := A1.key
      obtain ⟨b0, b1, b2⟩ := A2.key
      have HF := Lib.hid (HF.out.trans hf)
      clear hf
      go_wp2_with fail
      refine (CA.out _).mono ?_
      rintro e w1 ⟨rfl, hf⟩
      have A1 := A1.keep hf (fun h => h)
      have A2 := A2.keep hf (fun h => h)
      obtain ⟨a0, a1, a2⟩ := A1.key
      obtain ⟨b0, b1, b2⟩ := A2.key
      have HF := Lib.hid (HF.out.trans hf)
      clear hf
      go_wp2_with fail
      go_ret
      exact ⟨rfl, HF.out⟩
theorem ikeyOrders_walk (w : World) (s : ByteArray) (q k : Int) (hs : s.size ≤ maxLen) (_ : (Lit.int .i64 q).wf = true) (_ : (Lit.int .i64 k).wf = true) (s' : ByteArray) (q' k' : Int) (hs' : s'.size ≤ maxLen) (_ : (Lit.int .i64 q').wf = true) (_ : (Lit.int .i64 k').wf = true) :
    Calls Try.prog 5 #[.agg #[.string s, .int .i64 q, .int .i64 k], .agg #[.string s', .int .i64 q', .int .i64 k']] w fun e w' => e = .returned (.bool true) ∧ Below w.heap.size w w' :=
  (orders_c s s' q k q' k' hs hs' w).mono fun _ _ h => h.post
end Go.Proofs.Ytdpfgkjjjjkfkaa
