/-
  The walk of IkeyThree.
-/
import Derived.Test.YtdpfgkjjjjkfkaaIkF
namespace Go.Proofs.Ytdpfgkjjjjkfkaa
set_option linter.unusedVariables false
open Go.RowKit

theorem boxes3 (w : World) (t : TypeId) (x y z : Array Value) : ∃ W, ((w.alloc (.cells x t)).alloc (.cells y t)).alloc (.cells z t) = W ∧ Fr No w W ∧ At W w.heap.size t x ∧ At W (w.heap.size + 1) t y ∧ At W (w.heap.size + 2) t z := by
  refine ⟨_, rfl, (((Fr.refl No w).alloc _).alloc _).alloc _, ?_, ?_, ?_⟩
  · exact ((At.new w t x).keep ((Fr.refl No _).alloc _) (fun h => h)).keep ((Fr.refl No _).alloc _) (fun h => h)
  · have := (At.new (w.alloc (.cells x t)) t y).keep ((Fr.refl No _).alloc (.cells z t)) (fun h => h)
    simpa using this
  · have := At.new ((w.alloc (.cells x t)).alloc (.cells y t)) t z
    simpa using this
theorem three_ways (u u' u'' : List UInt8) (q k q' k' q'' k'' : Int) : ∃ a b c, cmpK u q k u' q' k' = a ∧ cmpK u' q' k' u'' q'' k'' = b ∧ cmpK u q k u'' q'' k'' = c ∧ (¬ a ≤ 0 ∨ (a ≤ 0 ∧ ¬ b ≤ 0) ∨ (a ≤ 0 ∧ b ≤ 0 ∧ ¬ 0 < c)) := by
  refine ⟨_, _, _, rfl, rfl, rfl, ?_⟩
  by_cases h1 : cmpK u q k u' q' k' ≤ 0
  · by_cases h2 : cmpK u' q' k' u'' q'' k'' ≤ 0
    · have := cmpK_trans u q k u' q' k' u'' q'' k'' h1 h2
      exact .inr (.inr ⟨h1, h2, by omega⟩)
    · exact .inr (.inl ⟨h1, h2⟩)
  · exact .inl h1
theorem ba_inj {s t : ByteArray} (h : s.data.toList = t.data.toList) : s = t := ByteArray.ext (Array.toList_inj.1 h)
theorem key_ways (s s' : ByteArray) (q k q' k' c : Int) (hc : cmpK s.data.toList q k s'.data.toList q' k' = c) :
    ((s.toList == s'.toList) = true ∧ (q == q') = true ∧ (k == k') = true ∧ c = 0) ∨ ((s.toList == s'.toList) = false ∧ (c == 0) = false) ∨ ((s.toList == s'.toList) = true ∧ (q == q') = false ∧ (c == 0) = false) ∨ ((s.toList == s'.toList) = true ∧ (q == q') = true ∧ (k == k') = false ∧ (c == 0) = false) := by
  have h := cmpK_zero s.data.toList q k s'.data.toList q' k'
  rw [hc] at h
  have hz : c ≠ 0 → (c == 0) = false := fun h => by rw [beq_eq_false_iff_ne]; exact h
  by_cases h1 : s = s'
  · have e1 : (s.toList == s'.toList) = true := by rw [h1]; exact beq_self_eq_true _
    by_cases h2 : q = q'
    · have e2 : (q == q') = true := by rw [h2]; exact beq_self_eq_true _
      by_cases h3 : k = k'
      · exact .inl ⟨e1, e2, by rw [h3]; exact beq_self_eq_true _, h.2 ⟨by rw [h1], h2, h3⟩⟩
      · exact .inr (.inr (.inr ⟨e1, e2, by rw [beq_eq_false_iff_ne]; exact h3, hz fun e => h3 (h.1 e).2.2⟩))
    · exact .inr (.inr (.inl ⟨e1, by rw [beq_eq_false_iff_ne]; exact h2, hz fun e => h2 (h.1 e).2.1⟩))
  · exact .inr (.inl ⟨by rw [beq_eq_false_iff_ne, ByteArray.toList_eq, ByteArray.toList_eq]; exact fun e => h1 (ba_inj e), hz fun e => h1 (ba_inj (h.1 e).1)⟩)
set_option maxRecDepth 20000 in
set_option maxHeartbeats 30000000 in
theorem three_c (s s' s'' : ByteArray) (q k q' k' q'' k'' : Int) (w : World) :
    Calls Try.prog 8 #[.agg #[.string s, .int .i64 q, .int .i64 k], .agg #[.string s', .int .i64 q', .int .i64 k'], .agg #[.string s'', .int .i64 q'', .int .i64 k'']] w (Yes w) := by
  have CA := Lib.hid awake_c
  obtain ⟨W, hW, hf, A1, A2, A3⟩ := boxes3 w 23 #[.string s, .int .i64 q, .int .i64 k] #[.string s', .int .i64 q', .int .i64 k'] #[.string s'', .int .i64 q'', .int .i64 k'']
  have HW := Lib.hid hW
  have HF := Lib.hid hf
  clear hW hf
  have CS1 := fun w => small_c s q k w
  have CS2 := fun w => small_c s' q' k' w
  have CS3 := fun w => small_c s'' q'' k'' w
  by_cases g : (s.size : Int) ≤ 300 ∧ (s'.size : Int) ≤ 300 ∧ (s''.size : Int) ≤ 300
  · obtain ⟨g1, g2, g3⟩ := g
    rw [decide_eq_true g1] at CS1
    rw [decide_eq_true g2] at CS2
    rw [decide_eq_true g3] at CS3
    have CS1 := Lib.hid CS1
    have CS2 := Lib.hid CS2
    have CS3 := Lib.hid CS3
    have h11 := (cmpK_zero s.data.toList q k s.data.toList q k).2 ⟨rfl, rfl, rfl⟩
    obtain ⟨c12, c23, c13, h12, h23, h13, hw⟩ := three_ways s.data.toList s'.data.toList s''.data.toList q k q' k' q'' k''
    have hk := key_ways s s' q k q' k' c12 h12
    have H11 := Lib.hid h11
    have H12 := Lib.hid h12
    have H23 := Lib.hid h23
    have H13 := Lib.hid h13
    clear h11 h12 h23 h13
    rcases hw with h1 | ⟨h1, h2⟩ | ⟨h1, h2, h3⟩
    · rcases hk with ⟨hk1, hk2, hk3, hk4⟩ | ⟨hk1, hk2⟩ | ⟨hk1, hk2, hk3⟩ | ⟨hk1, hk2, hk3, hk4⟩
      · omega
      · as_aux_lemma =>
        go_enter Try.func8, Try.ntmps8
        go_wp2_with fail
        rw [HW.out]
        refine (CS1.out _).mono ?_
        rintro e w1 ⟨rfl, hf⟩
        have A1 := A1.keep hf (fun h => h)
        have A2 := A2.keep hf (fun h => h)
        have A3 := A3.keep hf (fun h => h)
        obtain ⟨a0, a1, a2⟩ := A1.key
        obtain ⟨b0, b1, b2⟩ := A2.key
        obtain ⟨c0, c1, c2⟩ := A3.key
        have HF := Lib.hid (HF.out.trans hf)
        clear hf
        go_wp2_with fail
        refine (CS2.out _).mono ?_
        rintro e w1 ⟨rfl, hf⟩
        have A1 := A1.keep hf (fun h => h)
        have A2 := A2.keep hf (fun h => h)
        have A3 := A3.keep hf (fun h => h)
        obtain ⟨a0, a1, a2⟩ := A1.key
        obtain ⟨b0, b1, b2⟩ := A2.key
        obtain ⟨c0, c1, c2⟩ := A3.key
        have HF := Lib.hid (HF.out.trans hf)
        clear hf
        go_wp2_with fail
        refine (CS3.out _).mono ?_
        rintro e w1 ⟨rfl, hf⟩
        have A1 := A1.keep hf (fun h => h)
        have A2 := A2.keep hf (fun h => h)
        have A3 := A3.keep hf (fun h => h)
        obtain ⟨a0, a1, a2⟩ := A1.key
        obtain ⟨b0, b1, b2⟩ := A2.key
        obtain ⟨c0, c1, c2⟩ := A3.key
        have HF := Lib.hid (HF.out.trans hf)
        clear hf
        go_wp2_with fail
        refine (cmp_c _ _ _ _ _ _ _).mono ?_
        intro e w1 hret
        rw [H12.out] at hret
        obtain ⟨rfl, hf⟩ := hret
        have A1 := A1.keep hf (fun h => h)
        have A2 := A2.keep hf (fun h => h)
        have A3 := A3.keep hf (fun h => h)
        obtain ⟨a0, a1, a2⟩ := A1.key
        obtain ⟨b0, b1, b2⟩ := A2.key
        obtain ⟨c0, c1, c2⟩ := A3.key
        have HF := Lib.hid (HF.out.trans hf)
        clear hf
        go_wp2_with fail
        have HF := Lib.hid HF.out.drew
        go_region_held3 (fun w' => w'.cell? ⟨w.heap.size, 0, none⟩ = some (.string s) ∧ w'.cell? ⟨w.heap.size, 1, none⟩ = some (.int .i64 q) ∧ w'.cell? ⟨w.heap.size, 2, none⟩ = some (.int .i64 k) ∧ w'.cell? ⟨w.heap.size + 1, 0, none⟩ = some (.string s') ∧ w'.cell? ⟨w.heap.size + 1, 1, none⟩ = some (.int .i64 q') ∧ w'.cell? ⟨w.heap.size + 1, 2, none⟩ = some (.int .i64 k')) (first | assumption | go_keep)
          (first
            | (go_at_call 20; refine (cmp_c _ _ _ _ _ _ _).mono ?_; intro e wk hret; (first | rw [H12.out] at hret | rw [H11.out] at hret); obtain ⟨rfl, hf⟩ := hret
               have a0 := hf.cell (p := ⟨w.heap.size, 0, none⟩) (v := .string s) a0 (fun h => h)
               have a1 := hf.cell (p := ⟨w.heap.size, 1, none⟩) (v := .int .i64 q) a1 (fun h => h)
               have a2 := hf.cell (p := ⟨w.heap.size, 2, none⟩) (v := .int .i64 k) a2 (fun h => h)
               have b0 := hf.cell (p := ⟨w.heap.size + 1, 0, none⟩) (v := .string s') b0 (fun h => h)
               have b1 := hf.cell (p := ⟨w.heap.size + 1, 1, none⟩) (v := .int .i64 q') b1 (fun h => h)
               have b2 := hf.cell (p := ⟨w.heap.size + 1, 2, none⟩) (v := .int .i64 k') b2 (fun h => h)
               have HF := Lib.hid (HF.out.trans hf)
               clear hf)
            | (go_at_call 11; refine (CA.out _).mono ?_; intro e wk hret; obtain ⟨rfl, hf⟩ := hret
               have a0 := hf.cell (p := ⟨w.heap.size, 0, none⟩) (v := .string s) a0 (fun h => h)
               have a1 := hf.cell (p := ⟨w.heap.size, 1, none⟩) (v := .int .i64 q) a1 (fun h => h)
               have a2 := hf.cell (p := ⟨w.heap.size, 2, none⟩) (v := .int .i64 k) a2 (fun h => h)
               have b0 := hf.cell (p := ⟨w.heap.size + 1, 0, none⟩) (v := .string s') b0 (fun h => h)
               have b1 := hf.cell (p := ⟨w.heap.size + 1, 1, none⟩) (v := .int .i64 q') b1 (fun h => h)
               have b2 := hf.cell (p := ⟨w.heap.size + 1, 2, none⟩) (v := .int .i64 k') b2 (fun h => h)
               have HF := Lib.hid (HF.out.trans hf)
               clear hf))
        all_goals
          go_wp2_with fail
          go_ret
          exact ⟨rfl, HF.out⟩
      · as_aux_lemma =>
        go_enter Try.func8, Try.ntmps8
        go_wp2_with fail
        rw [HW.out]
        refine (CS1.out _).mono ?_
        rintro e w1 ⟨rfl, hf⟩
        have A1 := A1.keep hf (fun h => h)
        have A2 := A2.keep hf (fun h => h)
        have A3 := A3.keep hf (fun h => h)
        obtain ⟨a0, a1, a2⟩ := A1.key
        obtain ⟨b0, b1, b2⟩ := A2.key
        obtain ⟨c0, c1, c2⟩ := A3.key
        have HF := Lib.hid (HF.out.trans hf)
        clear hf
        go_wp2_with fail
        refine (CS2.out _).mono ?_
        rintro e w1 ⟨rfl, hf⟩
        have A1 := A1.keep hf (fun h => h)
        have A2 := A2.keep hf (fun h => h)
        have A3 := A3.keep hf (fun h => h)
        obtain ⟨a0, a1, a2⟩ := A1.key
        obtain ⟨b0, b1, b2⟩ := A2.key
        obtain ⟨c0, c1, c2⟩ := A3.key
        have HF := Lib.hid (HF.out.trans hf)
        clear hf
        go_wp2_with fail
        refine (CS3.out _).mono ?_
        rintro e w1 ⟨rfl, hf⟩
        have A1 := A1.keep hf (fun h => h)
        have A2 := A2.keep hf (fun h => h)
        have A3 := A3.keep hf (fun h => h)
        obtain ⟨a0, a1, a2⟩ := A1.key
        obtain ⟨b0, b1, b2⟩ := A2.key
        obtain ⟨c0, c1, c2⟩ := A3.key
        have HF := Lib.hid (HF.out.trans hf)
        clear hf
        go_wp2_with fail
        refine (cmp_c _ _ _ _ _ _ _).mono ?_
        intro e w1 hret
        rw [H12.out] at hret
        obtain ⟨rfl, hf⟩ := hret
        have A1 := A1.keep hf (fun h => h)
        have A2 := A2.keep hf (fun h => h)
        have A3 := A3.keep hf (fun h => h)
        obtain ⟨a0, a1, a2⟩ := A1.key
        obtain ⟨b0, b1, b2⟩ := A2.key
        obtain ⟨c0, c1, c2⟩ := A3.key
        have HF := Lib.hid (HF.out.trans hf)
        clear hf
        go_wp2_with fail
        have HF := Lib.hid HF.out.drew
        go_region_held3 (fun w' => w'.cell? ⟨w.heap.size, 0, none⟩ = some (.string s) ∧ w'.cell? ⟨w.heap.size, 1, none⟩ = some (.int .i64 q) ∧ w'.cell? ⟨w.heap.size, 2, none⟩ = some (.int .i64 k) ∧ w'.cell? ⟨w.heap.size + 1, 0, none⟩ = some (.string s') ∧ w'.cell? ⟨w.heap.size + 1, 1, none⟩ = some (.int .i64 q') ∧ w'.cell? ⟨w.heap.size + 1, 2, none⟩ = some (.int .i64 k')) (first | assumption | go_keep)
          (first
            | (go_at_call 20; refine (cmp_c _ _ _ _ _ _ _).mono ?_; intro e wk hret; (first | rw [H12.out] at hret | rw [H11.out] at hret); obtain ⟨rfl, hf⟩ := hret
               have a0 := hf.cell (p := ⟨w.heap.size, 0, none⟩) (v := .string s) a0 (fun h => h)
               have a1 := hf.cell (p := ⟨w.heap.size, 1, none⟩) (v := .int .i64 q) a1 (fun h => h)
               have a2 := hf.cell (p := ⟨w.heap.size, 2, none⟩) (v := .int .i64 k) a2 (fun h => h)
               have b0 := hf.cell (p := ⟨w.heap.size + 1, 0, none⟩) (v := .string s') b0 (fun h => h)
               have b1 := hf.cell (p := ⟨w.heap.size + 1, 1, none⟩) (v := .int .i64 q') b1 (fun h => h)
               have b2 := hf.cell (p := ⟨w.heap.size + 1, 2, none⟩) (v := .int .i64 k') b2 (fun h => h)
               have HF := Lib.hid (HF.out.trans hf)
               clear hf)
            | (go_at_call 11; refine (CA.out _).mono ?_; intro e wk hret; obtain ⟨rfl, hf⟩ := hret
               have a0 := hf.cell (p := ⟨w.heap.size, 0, none⟩) (v := .string s) a0 (fun h => h)
               have a1 := hf.cell (p := ⟨w.heap.size, 1, none⟩) (v := .int .i64 q) a1 (fun h => h)
               have a2 := hf.cell (p := ⟨w.heap.size, 2, none⟩) (v := .int .i64 k) a2 (fun h => h)
               have b0 := hf.cell (p := ⟨w.heap.size + 1, 0, none⟩) (v := .string s') b0 (fun h => h)
               have b1 := hf.cell (p := ⟨w.heap.size + 1, 1, none⟩) (v := .int .i64 q') b1 (fun h => h)
               have b2 := hf.cell (p := ⟨w.heap.size + 1, 2, none⟩) (v := .int .i64 k') b2 (fun h => h)
               have HF := Lib.hid (HF.out.trans hf)
               clear hf))
        all_goals
          go_wp2_with fail
          go_ret
          exact ⟨rfl, HF.out⟩
      · as_aux_lemma =>
        go_enter Try.func8, Try.ntmps8
        go_wp2_with fail
        rw [HW.out]
        refine (CS1.out _).mono ?_
        rintro e w1 ⟨rfl, hf⟩
        have A1 := A1.keep hf (fun h => h)
        have A2 := A2.keep hf (fun h => h)
        have A3 := A3.keep hf (fun h => h)
        obtain ⟨a0, a1, a2⟩ := A1.key
        obtain ⟨b0, b1, b2⟩ := A2.key
        obtain ⟨c0, c1, c2⟩ := A3.key
        have HF := Lib.hid (HF.out.trans hf)
        clear hf
        go_wp2_with fail
        refine (CS2.out _).mono ?_
        rintro e w1 ⟨rfl, hf⟩
        have A1 := A1.keep hf (fun h => h)
        have A2 := A2.keep hf (fun h => h)
        have A3 := A3.keep hf (fun h => h)
        obtain ⟨a0, a1, a2⟩ := A1.key
        obtain ⟨b0, b1, b2⟩ := A2.key
        obtain ⟨c0, c1, c2⟩ := A3.key
        have HF := Lib.hid (HF.out.trans hf)
        clear hf
        go_wp2_with fail
        refine (CS3.out _).mono ?_
        rintro e w1 ⟨rfl, hf⟩
        have A1 := A1.keep hf (fun h => h)
        have A2 := A2.keep hf (fun h => h)
        have A3 := A3.keep hf (fun h => h)
        obtain ⟨a0, a1, a2⟩ := A1.key
        obtain ⟨b0, b1, b2⟩ := A2.key
        obtain ⟨c0, c1, c2⟩ := A3.key
        have HF := Lib.hid (HF.out.trans hf)
        clear hf
        go_wp2_with fail
        refine (cmp_c _ _ _ _ _ _ _).mono ?_
        intro e w1 hret
        rw [H12.out] at hret
        obtain ⟨rfl, hf⟩ := hret
        have A1 := A1.keep hf (fun h => h)
        have A2 := A2.keep hf (fun h => h)
        have A3 := A3.keep hf (fun h => h)
        obtain ⟨a0, a1, a2⟩ := A1.key
        obtain ⟨b0, b1, b2⟩ := A2.key
        obtain ⟨c0, c1, c2⟩ := A3.key
        have HF := Lib.hid (HF.out.trans hf)
        clear hf
        go_wp2_with fail
        have HF := Lib.hid HF.out.drew
        go_region_held3 (fun w' => w'.cell? ⟨w.heap.size, 0, none⟩ = some (.string s) ∧ w'.cell? ⟨w.heap.size, 1, none⟩ = some (.int .i64 q) ∧ w'.cell? ⟨w.heap.size, 2, none⟩ = some (.int .i64 k) ∧ w'.cell? ⟨w.heap.size + 1, 0, none⟩ = some (.string s') ∧ w'.cell? ⟨w.heap.size + 1, 1, none⟩ = some (.int .i64 q') ∧ w'.cell? ⟨w.heap.size + 1, 2, none⟩ = some (.int .i64 k')) (first | assumption | go_keep)
          (first
            | (go_at_call 20; refine (cmp_c _ _ _ _ _ _ _).mono ?_; intro e wk hret; (first | rw [H12.out] at hret | rw [H11.out] at hret); obtain ⟨rfl, hf⟩ := hret
               have a0 := hf.cell (p := ⟨w.heap.size, 0, none⟩) (v := .string s) a0 (fun h => h)
               have a1 := hf.cell (p := ⟨w.heap.size, 1, none⟩) (v := .int .i64 q) a1 (fun h => h)
               have a2 := hf.cell (p := ⟨w.heap.size, 2, none⟩) (v := .int .i64 k) a2 (fun h => h)
               have b0 := hf.cell (p := ⟨w.heap.size + 1, 0, none⟩) (v := .string s') b0 (fun h => h)
               have b1 := hf.cell (p := ⟨w.heap.size + 1, 1, none⟩) (v := .int .i64 q') b1 (fun h => h)
               have b2 := hf.cell (p := ⟨w.heap.size + 1, 2, none⟩) (v := .int .i64 k') b2 (fun h => h)
               have HF := Lib.hid (HF.out.trans hf)
               clear hf)
            | (go_at_call 11; refine (CA.out _).mono ?_; intro e wk hret; obtain ⟨rfl, hf⟩ := hret
               have a0 := hf.cell (p := ⟨w.heap.size, 0, none⟩) (v := .string s) a0 (fun h => h)
               have a1 := hf.cell (p := ⟨w.heap.size, 1, none⟩) (v := .int .i64 q) a1 (fun h => h)
               have a2 := hf.cell (p := ⟨w.heap.size, 2, none⟩) (v := .int .i64 k) a2 (fun h => h)
               have b0 := hf.cell (p := ⟨w.heap.size + 1, 0, none⟩) (v := .string s') b0 (fun h => h)
               have b1 := hf.cell (p := ⟨w.heap.size + 1, 1, none⟩) (v := .int .i64 q') b1 (fun h => h)
               have b2 := hf.cell (p := ⟨w.heap.size + 1, 2, none⟩) (v := .int .i64 k') b2 (fun h => h)
               have HF := Lib.hid (HF.out.trans hf)
               clear hf))
        all_goals
          go_wp2_with fail
          go_ret
          exact ⟨rfl, HF.out⟩
    · rcases hk with ⟨hk1, hk2, hk3, hk4⟩ | ⟨hk1, hk2⟩ | ⟨hk1, hk2, hk3⟩ | ⟨hk1, hk2, hk3, hk4⟩
      · as_aux_lemma =>
        subst hk4
        go_enter Try.func8, Try.ntmps8
        go_wp2_with fail
        rw [HW.out]
        refine (CS1.out _).mono ?_
        rintro e w1 ⟨rfl, hf⟩
        have A1 := A1.keep hf (fun h => h)
        have A2 := A2.keep hf (fun h => h)
        have A3 := A3.keep hf (fun h => h)
        obtain ⟨a0, a1, a2⟩ := A1.key
        obtain ⟨b0, b1, b2⟩ := A2.key
        obtain ⟨c0, c1, c2⟩ := A3.key
        have HF := Lib.hid (HF.out.trans hf)
        clear hf
        go_wp2_with fail
        refine (CS2.out _).mono ?_
        rintro e w1 ⟨rfl, hf⟩
        have A1 := A1.keep hf (fun h => h)
        have A2 := A2.keep hf (fun h => h)
        have A3 := A3.keep hf (fun h => h)
        obtain ⟨a0, a1, a2⟩ := A1.key
        obtain ⟨b0, b1, b2⟩ := A2.key
        obtain ⟨c0, c1, c2⟩ := A3.key
        have HF := Lib.hid (HF.out.trans hf)
        clear hf
        go_wp2_with fail
        refine (CS3.out _).mono ?_
        rintro e w1 ⟨rfl, hf⟩
        have A1 := A1.keep hf (fun h => h)
        have A2 := A2.keep hf (fun h => h)
        have A3 := A3.keep hf (fun h => h)
        obtain ⟨a0, a1, a2⟩ := A1.key
        obtain ⟨b0, b1, b2⟩ := A2.key
        obtain ⟨c0, c1, c2⟩ := A3.key
        have HF := Lib.hid (HF.out.trans hf)
        clear hf
        go_wp2_with fail
        refine (cmp_c _ _ _ _ _ _ _).mono ?_
        intro e w1 hret
        rw [H12.out] at hret
        obtain ⟨rfl, hf⟩ := hret
        have A1 := A1.keep hf (fun h => h)
        have A2 := A2.keep hf (fun h => h)
        have A3 := A3.keep hf (fun h => h)
        obtain ⟨a0, a1, a2⟩ := A1.key
        obtain ⟨b0, b1, b2⟩ := A2.key
        obtain ⟨c0, c1, c2⟩ := A3.key
        have HF := Lib.hid (HF.out.trans hf)
        clear hf
        go_wp2_with fail
        refine (cmp_c _ _ _ _ _ _ _).mono ?_
        intro e w1 hret
        rw [H23.out] at hret
        obtain ⟨rfl, hf⟩ := hret
        have A1 := A1.keep hf (fun h => h)
        have A2 := A2.keep hf (fun h => h)
        have A3 := A3.keep hf (fun h => h)
        obtain ⟨a0, a1, a2⟩ := A1.key
        obtain ⟨b0, b1, b2⟩ := A2.key
        obtain ⟨c0, c1, c2⟩ := A3.key
        have HF := Lib.hid (HF.out.trans hf)
        clear hf
        go_wp2_with fail
        have HF := Lib.hid HF.out.drew
        go_region_held3 (fun w' => w'.cell? ⟨w.heap.size, 0, none⟩ = some (.string s) ∧ w'.cell? ⟨w.heap.size, 1, none⟩ = some (.int .i64 q) ∧ w'.cell? ⟨w.heap.size, 2, none⟩ = some (.int .i64 k) ∧ w'.cell? ⟨w.heap.size + 1, 0, none⟩ = some (.string s') ∧ w'.cell? ⟨w.heap.size + 1, 1, none⟩ = some (.int .i64 q') ∧ w'.cell? ⟨w.heap.size + 1, 2, none⟩ = some (.int .i64 k')) (first | assumption | go_keep)
          (first
            | (go_at_call 20; refine (cmp_c _ _ _ _ _ _ _).mono ?_; intro e wk hret; (first | rw [H12.out] at hret | rw [H11.out] at hret); obtain ⟨rfl, hf⟩ := hret
               have a0 := hf.cell (p := ⟨w.heap.size, 0, none⟩) (v := .string s) a0 (fun h => h)
               have a1 := hf.cell (p := ⟨w.heap.size, 1, none⟩) (v := .int .i64 q) a1 (fun h => h)
               have a2 := hf.cell (p := ⟨w.heap.size, 2, none⟩) (v := .int .i64 k) a2 (fun h => h)
               have b0 := hf.cell (p := ⟨w.heap.size + 1, 0, none⟩) (v := .string s') b0 (fun h => h)
               have b1 := hf.cell (p := ⟨w.heap.size + 1, 1, none⟩) (v := .int .i64 q') b1 (fun h => h)
               have b2 := hf.cell (p := ⟨w.heap.size + 1, 2, none⟩) (v := .int .i64 k') b2 (fun h => h)
               have HF := Lib.hid (HF.out.trans hf)
               clear hf)
            | (go_at_call 11; refine (CA.out _).mono ?_; intro e wk hret; obtain ⟨rfl, hf⟩ := hret
               have a0 := hf.cell (p := ⟨w.heap.size, 0, none⟩) (v := .string s) a0 (fun h => h)
               have a1 := hf.cell (p := ⟨w.heap.size, 1, none⟩) (v := .int .i64 q) a1 (fun h => h)
               have a2 := hf.cell (p := ⟨w.heap.size, 2, none⟩) (v := .int .i64 k) a2 (fun h => h)
               have b0 := hf.cell (p := ⟨w.heap.size + 1, 0, none⟩) (v := .string s') b0 (fun h => h)
               have b1 := hf.cell (p := ⟨w.heap.size + 1, 1, none⟩) (v := .int .i64 q') b1 (fun h => h)
               have b2 := hf.cell (p := ⟨w.heap.size + 1, 2, none⟩) (v := .int .i64 k') b2 (fun h => h)
               have HF := Lib.hid (HF.out.trans hf)
               clear hf))
        all_goals
          go_wp2_with fail
          go_ret
          exact ⟨rfl, HF.out⟩
      · as_aux_lemma =>
        go_enter Try.func8, Try.ntmps8
        go_wp2_with fail
        rw [HW.out]
        refine (CS1.out _).mono ?_
        rintro e w1 ⟨rfl, hf⟩
        have A1 := A1.keep hf (fun h => h)
        have A2 := A2.keep hf (fun h => h)
        have A3 := A3.keep hf (fun h => h)
        obtain ⟨a0, a1, a2⟩ := A1.key
        obtain ⟨b0, b1, b2⟩ := A2.key
        obtain ⟨c0, c1, c2⟩ := A3.key
        have HF := Lib.hid (HF.out.trans hf)
        clear hf
        go_wp2_with fail
        refine (CS2.out _).mono ?_
        rintro e w1 ⟨rfl, hf⟩
        have A1 := A1.keep hf (fun h => h)
        have A2 := A2.keep hf (fun h => h)
        have A3 := A3.keep hf (fun h => h)
        obtain ⟨a0, a1, a2⟩ := A1.key
        obtain ⟨b0, b1, b2⟩ := A2.key
        obtain ⟨c0, c1, c2⟩ := A3.key
        have HF := Lib.hid (HF.out.trans hf)
        clear hf
        go_wp2_with fail
        refine (CS3.out _).mono ?_
        rintro e w1 ⟨rfl, hf⟩
        have A1 := A1.keep hf (fun h => h)
        have A2 := A2.keep hf (fun h => h)
        have A3 := A3.keep hf (fun h => h)
        obtain ⟨a0, a1, a2⟩ := A1.key
        obtain ⟨b0, b1, b2⟩ := A2.key
        obtain ⟨c0, c1, c2⟩ := A3.key
        have HF := Lib.hid (HF.out.trans hf)
        clear hf
        go_wp2_with fail
        refine (cmp_c _ _ _ _ _ _ _).mono ?_
        intro e w1 hret
        rw [H12.out] at hret
        obtain ⟨rfl, hf⟩ := hret
        have A1 := A1.keep hf (fun h => h)
        have A2 := A2.keep hf (fun h => h)
        have A3 := A3.keep hf (fun h => h)
        obtain ⟨a0, a1, a2⟩ := A1.key
        obtain ⟨b0, b1, b2⟩ := A2.key
        obtain ⟨c0, c1, c2⟩ := A3.key
        have HF := Lib.hid (HF.out.trans hf)
        clear hf
        go_wp2_with fail
        refine (cmp_c _ _ _ _ _ _ _).mono ?_
        intro e w1 hret
        rw [H23.out] at hret
        obtain ⟨rfl, hf⟩ := hret
        have A1 := A1.keep hf (fun h => h)
        have A2 := A2.keep hf (fun h => h)
        have A3 := A3.keep hf (fun h => h)
        obtain ⟨a0, a1, a2⟩ := A1.key
        obtain ⟨b0, b1, b2⟩ := A2.key
        obtain ⟨c0, c1, c2⟩ := A3.key
        have HF := Lib.hid (HF.out.trans hf)
        clear hf
        go_wp2_with fail
        have HF := Lib.hid HF.out.drew
        go_region_held3 (fun w' => w'.cell? ⟨w.heap.size, 0, none⟩ = some (.string s) ∧ w'.cell? ⟨w.heap.size, 1, none⟩ = some (.int .i64 q) ∧ w'.cell? ⟨w.heap.size, 2, none⟩ = some (.int .i64 k) ∧ w'.cell? ⟨w.heap.size + 1, 0, none⟩ = some (.string s') ∧ w'.cell? ⟨w.heap.size + 1, 1, none⟩ = some (.int .i64 q') ∧ w'.cell? ⟨w.heap.size + 1, 2, none⟩ = some (.int .i64 k')) (first | assumption | go_keep)
          (first
            | (go_at_call 20; refine (cmp_c _ _ _ _ _ _ _).mono ?_; intro e wk hret; (first | rw [H12.out] at hret | rw [H11.out] at hret); obtain ⟨rfl, hf⟩ := hret
               have a0 := hf.cell (p := ⟨w.heap.size, 0, none⟩) (v := .string s) a0 (fun h => h)
               have a1 := hf.cell (p := ⟨w.heap.size, 1, none⟩) (v := .int .i64 q) a1 (fun h => h)
               have a2 := hf.cell (p := ⟨w.heap.size, 2, none⟩) (v := .int .i64 k) a2 (fun h => h)
               have b0 := hf.cell (p := ⟨w.heap.size + 1, 0, none⟩) (v := .string s') b0 (fun h => h)
               have b1 := hf.cell (p := ⟨w.heap.size + 1, 1, none⟩) (v := .int .i64 q') b1 (fun h => h)
               have b2 := hf.cell (p := ⟨w.heap.size + 1, 2, none⟩) (v := .int .i64 k') b2 (fun h => h)
               have HF := Lib.hid (HF.out.trans hf)
               clear hf)
            | (go_at_call 11; refine (CA.out _).mono ?_; intro e wk hret; obtain ⟨rfl, hf⟩ := hret
               have a0 := hf.cell (p := ⟨w.heap.size, 0, none⟩) (v := .string s) a0 (fun h => h)
               have a1 := hf.cell (p := ⟨w.heap.size, 1, none⟩) (v := .int .i64 q) a1 (fun h => h)
               have a2 := hf.cell (p := ⟨w.heap.size, 2, none⟩) (v := .int .i64 k) a2 (fun h => h)
               have b0 := hf.cell (p := ⟨w.heap.size + 1, 0, none⟩) (v := .string s') b0 (fun h => h)
               have b1 := hf.cell (p := ⟨w.heap.size + 1, 1, none⟩) (v := .int .i64 q') b1 (fun h => h)
               have b2 := hf.cell (p := ⟨w.heap.size + 1, 2, none⟩) (v := .int .i64 k') b2 (fun h => h)
               have HF := Lib.hid (HF.out.trans hf)
               clear hf))
        all_goals
          go_wp2_with fail
          go_ret
          exact ⟨rfl, HF.out⟩
      · as_aux_lemma =>
        go_enter Try.func8, Try.ntmps8
        go_wp2_with fail
        rw [HW.out]
        refine (CS1.out _).mono ?_
        rintro e w1 ⟨rfl, hf⟩
        have A1 := A1.keep hf (fun h => h)
        have A2 := A2.keep hf (fun h => h)
        have A3 := A3.keep hf (fun h => h)
        obtain ⟨a0, a1, a2⟩ := A1.key
        obtain ⟨b0, b1, b2⟩ := A2.key
        obtain ⟨c0, c1, c2⟩ := A3.key
        have HF := Lib.hid (HF.out.trans hf)
        clear hf
        go_wp2_with fail
        refine (CS2.out _).mono ?_
        rintro e w1 ⟨rfl, hf⟩
        have A1 := A1.keep hf (fun h => h)
        have A2 := A2.keep hf (fun h => h)
        have A3 := A3.keep hf (fun h => h)
        obtain ⟨a0, a1, a2⟩ := A1.key
        obtain ⟨b0, b1, b2⟩ := A2.key
        obtain ⟨c0, c1, c2⟩ := A3.key
        have HF := Lib.hid (HF.out.trans hf)
        clear hf
        go_wp2_with fail
        refine (CS3.out _).mono ?_
        rintro e w1 ⟨rfl, hf⟩
        have A1 := A1.keep hf (fun h => h)
        have A2 := A2.keep hf (fun h => h)
        have A3 := A3.keep hf (fun h => h)
        obtain ⟨a0, a1, a2⟩ := A1.key
        obtain ⟨b0, b1, b2⟩ := A2.key
        obtain ⟨c0, c1, c2⟩ := A3.key
        have HF := Lib.hid (HF.out.trans hf)
        clear hf
        go_wp2_with fail
        refine (cmp_c _ _ _ _ _ _ _).mono ?_
        intro e w1 hret
        rw [H12.out] at hret
        obtain ⟨rfl, hf⟩ := hret
        have A1 := A1.keep hf (fun h => h)
        have A2 := A2.keep hf (fun h => h)
        have A3 := A3.keep hf (fun h => h)
        obtain ⟨a0, a1, a2⟩ := A1.key
        obtain ⟨b0, b1, b2⟩ := A2.key
        obtain ⟨c0, c1, c2⟩ := A3.key
        have HF := Lib.hid (HF.out.trans hf)
        clear hf
        go_wp2_with fail
        refine (cmp_c _ _ _ _ _ _ _).mono ?_
        intro e w1 hret
        rw [H23.out] at hret
        obtain ⟨rfl, hf⟩ := hret
        have A1 := A1.keep hf (fun h => h)
        have A2 := A2.keep hf (fun h => h)
        have A3 := A3.keep hf (fun h => h)
        obtain ⟨a0, a1, a2⟩ := A1.key
        obtain ⟨b0, b1, b2⟩ := A2.key
        obtain ⟨c0, c1, c2⟩ := A3.key
        have HF := Lib.hid (HF.out.trans hf)
        clear hf
        go_wp2_with fail
        have HF := Lib.hid HF.out.drew
        go_region_held3 (fun w' => w'.cell? ⟨w.heap.size, 0, none⟩ = some (.string s) ∧ w'.cell? ⟨w.heap.size, 1, none⟩ = some (.int .i64 q) ∧ w'.cell? ⟨w.heap.size, 2, none⟩ = some (.int .i64 k) ∧ w'.cell? ⟨w.heap.size + 1, 0, none⟩ = some (.string s') ∧ w'.cell? ⟨w.heap.size + 1, 1, none⟩ = some (.int .i64 q') ∧ w'.cell? ⟨w.heap.size + 1, 2, none⟩ = some (.int .i64 k')) (first | assumption | go_keep)
          (first
            | (go_at_call 20; refine (cmp_c _ _ _ _ _ _ _).mono ?_; intro e wk hret; (first | rw [H12.out] at hret | rw [H11.out] at hret); obtain ⟨rfl, hf⟩ := hret
               have a0 := hf.cell (p := ⟨w.heap.size, 0, none⟩) (v := .string s) a0 (fun h => h)
               have a1 := hf.cell (p := ⟨w.heap.size, 1, none⟩) (v := .int .i64 q) a1 (fun h => h)
               have a2 := hf.cell (p := ⟨w.heap.size, 2, none⟩) (v := .int .i64 k) a2 (fun h => h)
               have b0 := hf.cell (p := ⟨w.heap.size + 1, 0, none⟩) (v := .string s') b0 (fun h => h)
               have b1 := hf.cell (p := ⟨w.heap.size + 1, 1, none⟩) (v := .int .i64 q') b1 (fun h => h)
               have b2 := hf.cell (p := ⟨w.heap.size + 1, 2, none⟩) (v := .int .i64 k') b2 (fun h => h)
               have HF := Lib.hid (HF.out.trans hf)
               clear hf)
            | (go_at_call 11; refine (CA.out _).mono ?_; intro e wk hret; obtain ⟨rfl, hf⟩ := hret
               have a0 := hf.cell (p := ⟨w.heap.size, 0, none⟩) (v := .string s) a0 (fun h => h)
               have a1 := hf.cell (p := ⟨w.heap.size, 1, none⟩) (v := .int .i64 q) a1 (fun h => h)
               have a2 := hf.cell (p := ⟨w.heap.size, 2, none⟩) (v := .int .i64 k) a2 (fun h => h)
               have b0 := hf.cell (p := ⟨w.heap.size + 1, 0, none⟩) (v := .string s') b0 (fun h => h)
               have b1 := hf.cell (p := ⟨w.heap.size + 1, 1, none⟩) (v := .int .i64 q') b1 (fun h => h)
               have b2 := hf.cell (p := ⟨w.heap.size + 1, 2, none⟩) (v := .int .i64 k') b2 (fun h => h)
               have HF := Lib.hid (HF.out.trans hf)
               clear hf))
        all_goals
          go_wp2_with fail
          go_ret
          exact ⟨rfl, HF.out⟩
      · as_aux_lemma =>
        go_enter Try.func8, Try.ntmps8
        go_wp2_with fail
        rw [HW.out]
        refine (CS1.out _).mono ?_
        rintro e w1 ⟨rfl, hf⟩
        have A1 := A1.keep hf (fun h => h)
        have A2 := A2.keep hf (fun h => h)
        have A3 := A3.keep hf (fun h => h)
        obtain ⟨a0, a1, a2⟩ := A1.key
        obtain ⟨b0, b1, b2⟩ := A2.key
        obtain ⟨c0, c1, c2⟩ := A3.key
        have HF := Lib.hid (HF.out.trans hf)
        clear hf
        go_wp2_with fail
        refine (CS2.out _).mono ?_
        rintro e w1 ⟨rfl, hf⟩
        have A1 := A1.keep hf (fun h => h)
        have A2 := A2.keep hf (fun h => h)
        have A3 := A3.keep hf (fun h => h)
        obtain ⟨a0, a1, a2⟩ := A1.key
        obtain ⟨b0, b1, b2⟩ := A2.key
        obtain ⟨c0, c1, c2⟩ := A3.key
        have HF := Lib.hid (HF.out.trans hf)
        clear hf
        go_wp2_with fail
        refine (CS3.out _).mono ?_
        rintro e w1 ⟨rfl, hf⟩
        have A1 := A1.keep hf (fun h => h)
        have A2 := A2.keep hf (fun h => h)
        have A3 := A3.keep hf (fun h => h)
        obtain ⟨a0, a1, a2⟩ := A1.key
        obtain ⟨b0, b1, b2⟩ := A2.key
        obtain ⟨c0, c1, c2⟩ := A3.key
        have HF := Lib.hid (HF.out.trans hf)
        clear hf
        go_wp2_with fail
        refine (cmp_c _ _ _ _ _ _ _).mono ?_
        intro e w1 hret
        rw [H12.out] at hret
        obtain ⟨rfl, hf⟩ := hret
        have A1 := A1.keep hf (fun h => h)
        have A2 := A2.keep hf (fun h => h)
        have A3 := A3.keep hf (fun h => h)
        obtain ⟨a0, a1, a2⟩ := A1.key
        obtain ⟨b0, b1, b2⟩ := A2.key
        obtain ⟨c0, c1, c2⟩ := A3.key
        have HF := Lib.hid (HF.out.trans hf)
        clear hf
        go_wp2_with fail
        refine (cmp_c _ _ _ _ _ _ _).mono ?_
        intro e w1 hret
        rw [H23.out] at hret
        obtain ⟨rfl, hf⟩ := hret
        have A1 := A1.keep hf (fun h => h)
        have A2 := A2.keep hf (fun h => h)
        have A3 := A3.keep hf (fun h => h)
        obtain ⟨a0, a1, a2⟩ := A1.key
        obtain ⟨b0, b1, b2⟩ := A2.key
        obtain ⟨c0, c1, c2⟩ := A3.key
        have HF := Lib.hid (HF.out.trans hf)
        clear hf
        go_wp2_with fail
        have HF := Lib.hid HF.out.drew
        go_region_held3 (fun w' => w'.cell? ⟨w.heap.size, 0, none⟩ = some (.string s) ∧ w'.cell? ⟨w.heap.size, 1, none⟩ = some (.int .i64 q) ∧ w'.cell? ⟨w.heap.size, 2, none⟩ = some (.int .i64 k) ∧ w'.cell? ⟨w.heap.size + 1, 0, none⟩ = some (.string s') ∧ w'.cell? ⟨w.heap.size + 1, 1, none⟩ = some (.int .i64 q') ∧ w'.cell? ⟨w.heap.size + 1, 2, none⟩ = some (.int .i64 k')) (first | assumption | go_keep)
          (first
            | (go_at_call 20; refine (cmp_c _ _ _ _ _ _ _).mono ?_; intro e wk hret; (first | rw [H12.out] at hret | rw [H11.out] at hret); obtain ⟨rfl, hf⟩ := hret
               have a0 := hf.cell (p := ⟨w.heap.size, 0, none⟩) (v := .string s) a0 (fun h => h)
               have a1 := hf.cell (p := ⟨w.heap.size, 1, none⟩) (v := .int .i64 q) a1 (fun h => h)
               have a2 := hf.cell (p := ⟨w.heap.size, 2, none⟩) (v := .int .i64 k) a2 (fun h => h)
               have b0 := hf.cell (p := ⟨w.heap.size + 1, 0, none⟩) (v := .string s') b0 (fun h => h)
               have b1 := hf.cell (p := ⟨w.heap.size + 1, 1, none⟩) (v := .int .i64 q') b1 (fun h => h)
               have b2 := hf.cell (p := ⟨w.heap.size + 1, 2, none⟩) (v := .int .i64 k') b2 (fun h => h)
               have HF := Lib.hid (HF.out.trans hf)
               clear hf)
            | (go_at_call 11; refine (CA.out _).mono ?_; intro e wk hret; obtain ⟨rfl, hf⟩ := hret
               have a0 := hf.cell (p := ⟨w.heap.size, 0, none⟩) (v := .string s) a0 (fun h => h)
               have a1 := hf.cell (p := ⟨w.heap.size, 1, none⟩) (v := .int .i64 q) a1 (fun h => h)
               have a2 := hf.cell (p := ⟨w.heap.size, 2, none⟩) (v := .int .i64 k) a2 (fun h => h)
               have b0 := hf.cell (p := ⟨w.heap.size + 1, 0, none⟩) (v := .string s') b0 (fun h => h)
               have b1 := hf.cell (p := ⟨w.heap.size + 1, 1, none⟩) (v := .int .i64 q') b1 (fun h => h)
               have b2 := hf.cell (p := ⟨w.heap.size + 1, 2, none⟩) (v := .int .i64 k') b2 (fun h => h)
               have HF := Lib.hid (HF.out.trans hf)
               clear hf))
        all_goals
          go_wp2_with fail
          go_ret
          exact ⟨rfl, HF.out⟩
    · rcases hk with ⟨hk1, hk2, hk3, hk4⟩ | ⟨hk1, hk2⟩ | ⟨hk1, hk2, hk3⟩ | ⟨hk1, hk2, hk3, hk4⟩
      · as_aux_lemma =>
        subst hk4
        go_enter Try.func8, Try.ntmps8
        go_wp2_with fail
        rw [HW.out]
        refine (CS1.out _).mono ?_
        rintro e w1 ⟨rfl, hf⟩
        have A1 := A1.keep hf (fun h => h)
        have A2 := A2.keep hf (fun h => h)
        have A3 := A3.keep hf (fun h => h)
        obtain ⟨a0, a1, a2⟩ := A1.key
        obtain ⟨b0, b1, b2⟩ := A2.key
        obtain ⟨c0, c1, c2⟩ := A3.key
        have HF := Lib.hid (HF.out.trans hf)
        clear hf
        go_wp2_with fail
        refine (CS2.out _).mono ?_
        rintro e w1 ⟨rfl, hf⟩
        have A1 := A1.keep hf (fun h => h)
        have A2 := A2.keep hf (fun h => h)
        have A3 := A3.keep hf (fun h => h)
        obtain ⟨a0, a1, a2⟩ := A1.key
        obtain ⟨b0, b1, b2⟩ := A2.key
        obtain ⟨c0, c1, c2⟩ := A3.key
        have HF := Lib.hid (HF.out.trans hf)
        clear hf
        go_wp2_with fail
        refine (CS3.out _).mono ?_
        rintro e w1 ⟨rfl, hf⟩
        have A1 := A1.keep hf (fun h => h)
        have A2 := A2.keep hf (fun h => h)
        have A3 := A3.keep hf (fun h => h)
        obtain ⟨a0, a1, a2⟩ := A1.key
        obtain ⟨b0, b1, b2⟩ := A2.key
        obtain ⟨c0, c1, c2⟩ := A3.key
        have HF := Lib.hid (HF.out.trans hf)
        clear hf
        go_wp2_with fail
        refine (cmp_c _ _ _ _ _ _ _).mono ?_
        intro e w1 hret
        rw [H12.out] at hret
        obtain ⟨rfl, hf⟩ := hret
        have A1 := A1.keep hf (fun h => h)
        have A2 := A2.keep hf (fun h => h)
        have A3 := A3.keep hf (fun h => h)
        obtain ⟨a0, a1, a2⟩ := A1.key
        obtain ⟨b0, b1, b2⟩ := A2.key
        obtain ⟨c0, c1, c2⟩ := A3.key
        have HF := Lib.hid (HF.out.trans hf)
        clear hf
        go_wp2_with fail
        refine (cmp_c _ _ _ _ _ _ _).mono ?_
        intro e w1 hret
        rw [H23.out] at hret
        obtain ⟨rfl, hf⟩ := hret
        have A1 := A1.keep hf (fun h => h)
        have A2 := A2.keep hf (fun h => h)
        have A3 := A3.keep hf (fun h => h)
        obtain ⟨a0, a1, a2⟩ := A1.key
        obtain ⟨b0, b1, b2⟩ := A2.key
        obtain ⟨c0, c1, c2⟩ := A3.key
        have HF := Lib.hid (HF.out.trans hf)
        clear hf
        go_wp2_with fail
        refine (cmp_c _ _ _ _ _ _ _).mono ?_
        intro e w1 hret
        rw [H13.out] at hret
        obtain ⟨rfl, hf⟩ := hret
        have A1 := A1.keep hf (fun h => h)
        have A2 := A2.keep hf (fun h => h)
        have A3 := A3.keep hf (fun h => h)
        obtain ⟨a0, a1, a2⟩ := A1.key
        obtain ⟨b0, b1, b2⟩ := A2.key
        obtain ⟨c0, c1, c2⟩ := A3.key
        have HF := Lib.hid (HF.out.trans hf)
        clear hf
        go_wp2_with fail
        have HF := Lib.hid HF.out.drew
        go_region_held3 (fun w' => w'.cell? ⟨w.heap.size, 0, none⟩ = some (.string s) ∧ w'.cell? ⟨w.heap.size, 1, none⟩ = some (.int .i64 q) ∧ w'.cell? ⟨w.heap.size, 2, none⟩ = some (.int .i64 k) ∧ w'.cell? ⟨w.heap.size + 1, 0, none⟩ = some (.string s') ∧ w'.cell? ⟨w.heap.size + 1, 1, none⟩ = some (.int .i64 q') ∧ w'.cell? ⟨w.heap.size + 1, 2, none⟩ = some (.int .i64 k')) (first | assumption | go_keep)
          (first
            | (go_at_call 20; refine (cmp_c _ _ _ _ _ _ _).mono ?_; intro e wk hret; (first | rw [H12.out] at hret | rw [H11.out] at hret); obtain ⟨rfl, hf⟩ := hret
               have a0 := hf.cell (p := ⟨w.heap.size, 0, none⟩) (v := .string s) a0 (fun h => h)
               have a1 := hf.cell (p := ⟨w.heap.size, 1, none⟩) (v := .int .i64 q) a1 (fun h => h)
               have a2 := hf.cell (p := ⟨w.heap.size, 2, none⟩) (v := .int .i64 k) a2 (fun h => h)
               have b0 := hf.cell (p := ⟨w.heap.size + 1, 0, none⟩) (v := .string s') b0 (fun h => h)
               have b1 := hf.cell (p := ⟨w.heap.size + 1, 1, none⟩) (v := .int .i64 q') b1 (fun h => h)
               have b2 := hf.cell (p := ⟨w.heap.size + 1, 2, none⟩) (v := .int .i64 k') b2 (fun h => h)
               have HF := Lib.hid (HF.out.trans hf)
               clear hf)
            | (go_at_call 11; refine (CA.out _).mono ?_; intro e wk hret; obtain ⟨rfl, hf⟩ := hret
               have a0 := hf.cell (p := ⟨w.heap.size, 0, none⟩) (v := .string s) a0 (fun h => h)
               have a1 := hf.cell (p := ⟨w.heap.size, 1, none⟩) (v := .int .i64 q) a1 (fun h => h)
               have a2 := hf.cell (p := ⟨w.heap.size, 2, none⟩) (v := .int .i64 k) a2 (fun h => h)
               have b0 := hf.cell (p := ⟨w.heap.size + 1, 0, none⟩) (v := .string s') b0 (fun h => h)
               have b1 := hf.cell (p := ⟨w.heap.size + 1, 1, none⟩) (v := .int .i64 q') b1 (fun h => h)
               have b2 := hf.cell (p := ⟨w.heap.size + 1, 2, none⟩) (v := .int .i64 k') b2 (fun h => h)
               have HF := Lib.hid (HF.out.trans hf)
               clear hf))
        all_goals
          go_wp2_with fail
          go_ret
          exact ⟨rfl, HF.out⟩
      · as_aux_lemma =>
        go_enter Try.func8, Try.ntmps8
        go_wp2_with fail
        rw [HW.out]
        refine (CS1.out _).mono ?_
        rintro e w1 ⟨rfl, hf⟩
        have A1 := A1.keep hf (fun h => h)
        have A2 := A2.keep hf (fun h => h)
        have A3 := A3.keep hf (fun h => h)
        obtain ⟨a0, a1, a2⟩ := A1.key
        obtain ⟨b0, b1, b2⟩ := A2.key
        obtain ⟨c0, c1, c2⟩ := A3.key
        have HF := Lib.hid (HF.out.trans hf)
        clear hf
        go_wp2_with fail
        refine (CS2.out _).mono ?_
        rintro e w1 ⟨rfl, hf⟩
        have A1 := A1.keep hf (fun h => h)
        have A2 := A2.keep hf (fun h => h)
        have A3 := A3.keep hf (fun h => h)
        obtain ⟨a0, a1, a2⟩ := A1.key
        obtain ⟨b0, b1, b2⟩ := A2.key
        obtain ⟨c0, c1, c2⟩ := A3.key
        have HF := Lib.hid (HF.out.trans hf)
        clear hf
        go_wp2_with fail
        refine (CS3.out _).mono ?_
        rintro e w1 ⟨rfl, hf⟩
        have A1 := A1.keep hf (fun h => h)
        have A2 := A2.keep hf (fun h => h)
        have A3 := A3.keep hf (fun h => h)
        obtain ⟨a0, a1, a2⟩ := A1.key
        obtain ⟨b0, b1, b2⟩ := A2.key
        obtain ⟨c0, c1, c2⟩ := A3.key
        have HF := Lib.hid (HF.out.trans hf)
        clear hf
        go_wp2_with fail
        refine (cmp_c _ _ _ _ _ _ _).mono ?_
        intro e w1 hret
        rw [H12.out] at hret
        obtain ⟨rfl, hf⟩ := hret
        have A1 := A1.keep hf (fun h => h)
        have A2 := A2.keep hf (fun h => h)
        have A3 := A3.keep hf (fun h => h)
        obtain ⟨a0, a1, a2⟩ := A1.key
        obtain ⟨b0, b1, b2⟩ := A2.key
        obtain ⟨c0, c1, c2⟩ := A3.key
        have HF := Lib.hid (HF.out.trans hf)
        clear hf
        go_wp2_with fail
        refine (cmp_c _ _ _ _ _ _ _).mono ?_
        intro e w1 hret
        rw [H23.out] at hret
        obtain ⟨rfl, hf⟩ := hret
        have A1 := A1.keep hf (fun h => h)
        have A2 := A2.keep hf (fun h => h)
        have A3 := A3.keep hf (fun h => h)
        obtain ⟨a0, a1, a2⟩ := A1.key
        obtain ⟨b0, b1, b2⟩ := A2.key
        obtain ⟨c0, c1, c2⟩ := A3.key
        have HF := Lib.hid (HF.out.trans hf)
        clear hf
        go_wp2_with fail
        refine (cmp_c _ _ _ _ _ _ _).mono ?_
        intro e w1 hret
        rw [H13.out] at hret
        obtain ⟨rfl, hf⟩ := hret
        have A1 := A1.keep hf (fun h => h)
        have A2 := A2.keep hf (fun h => h)
        have A3 := A3.keep hf (fun h => h)
        obtain ⟨a0, a1, a2⟩ := A1.key
        obtain ⟨b0, b1, b2⟩ := A2.key
        obtain ⟨c0, c1, c2⟩ := A3.key
        have HF := Lib.hid (HF.out.trans hf)
        clear hf
        go_wp2_with fail
        have HF := Lib.hid HF.out.drew
        go_region_held3 (fun w' => w'.cell? ⟨w.heap.size, 0, none⟩ = some (.string s) ∧ w'.cell? ⟨w.heap.size, 1, none⟩ = some (.int .i64 q) ∧ w'.cell? ⟨w.heap.size, 2, none⟩ = some (.int .i64 k) ∧ w'.cell? ⟨w.heap.size + 1, 0, none⟩ = some (.string s') ∧ w'.cell? ⟨w.heap.size + 1, 1, none⟩ = some (.int .i64 q') ∧ w'.cell? ⟨w.heap.size + 1, 2, none⟩ = some (.int .i64 k')) (first | assumption | go_keep)
          (first
            | (go_at_call 20; refine (cmp_c _ _ _ _ _ _ _).mono ?_; intro e wk hret; (first | rw [H12.out] at hret | rw [H11.out] at hret); obtain ⟨rfl, hf⟩ := hret
               have a0 := hf.cell (p := ⟨w.heap.size, 0, none⟩) (v := .string s) a0 (fun h => h)
               have a1 := hf.cell (p := ⟨w.heap.size, 1, none⟩) (v := .int .i64 q) a1 (fun h => h)
               have a2 := hf.cell (p := ⟨w.heap.size, 2, none⟩) (v := .int .i64 k) a2 (fun h => h)
               have b0 := hf.cell (p := ⟨w.heap.size + 1, 0, none⟩) (v := .string s') b0 (fun h => h)
               have b1 := hf.cell (p := ⟨w.heap.size + 1, 1, none⟩) (v := .int .i64 q') b1 (fun h => h)
               have b2 := hf.cell (p := ⟨w.heap.size + 1, 2, none⟩) (v := .int .i64 k') b2 (fun h => h)
               have HF := Lib.hid (HF.out.trans hf)
               clear hf)
            | (go_at_call 11; refine (CA.out _).mono ?_; intro e wk hret; obtain ⟨rfl, hf⟩ := hret
               have a0 := hf.cell (p := ⟨w.heap.size, 0, none⟩) (v := .string s) a0 (fun h => h)
               have a1 := hf.cell (p := ⟨w.heap.size, 1, none⟩) (v := .int .i64 q) a1 (fun h => h)
               have a2 := hf.cell (p := ⟨w.heap.size, 2, none⟩) (v := .int .i64 k) a2 (fun h => h)
               have b0 := hf.cell (p := ⟨w.heap.size + 1, 0, none⟩) (v := .string s') b0 (fun h => h)
               have b1 := hf.cell (p := ⟨w.heap.size + 1, 1, none⟩) (v := .int .i64 q') b1 (fun h => h)
               have b2 := hf.cell (p := ⟨w.heap.size + 1, 2, none⟩) (v := .int .i64 k') b2 (fun h => h)
               have HF := Lib.hid (HF.out.trans hf)
               clear hf))
        all_goals
          go_wp2_with fail
          go_ret
          exact ⟨rfl, HF.out⟩
      · as_aux_lemma =>
        go_enter Try.func8, Try.ntmps8
        go_wp2_with fail
        rw [HW.out]
        refine (CS1.out _).mono ?_
        rintro e w1 ⟨rfl, hf⟩
        have A1 := A1.keep hf (fun h => h)
        have A2 := A2.keep hf (fun h => h)
        have A3 := A3.keep hf (fun h => h)
        obtain ⟨a0, a1, a2⟩ := A1.key
        obtain ⟨b0, b1, b2⟩ := A2.key
        obtain ⟨c0, c1, c2⟩ := A3.key
        have HF := Lib.hid (HF.out.trans hf)
        clear hf
        go_wp2_with fail
        refine (CS2.out _).mono ?_
        rintro e w1 ⟨rfl, hf⟩
        have A1 := A1.keep hf (fun h => h)
        have A2 := A2.keep hf (fun h => h)
        have A3 := A3.keep hf (fun h => h)
        obtain ⟨a0, a1, a2⟩ := A1.key
        obtain ⟨b0, b1, b2⟩ := A2.key
        obtain ⟨c0, c1, c2⟩ := A3.key
        have HF := Lib.hid (HF.out.trans hf)
        clear hf
        go_wp2_with fail
        refine (CS3.out _).mono ?_
        rintro e w1 ⟨rfl, hf⟩
        have A1 := A1.keep hf (fun h => h)
        have A2 := A2.keep hf (fun h => h)
        have A3 := A3.keep hf (fun h => h)
        obtain ⟨a0, a1, a2⟩ := A1.key
        obtain ⟨b0, b1, b2⟩ := A2.key
        obtain ⟨c0, c1, c2⟩ := A3.key
        have HF := Lib.hid (HF.out.trans hf)
        clear hf
        go_wp2_with fail
        refine (cmp_c _ _ _ _ _ _ _).mono ?_
        intro e w1 hret
        rw [H12.out] at hret
        obtain ⟨rfl, hf⟩ := hret
        have A1 := A1.keep hf (fun h => h)
        have A2 := A2.keep hf (fun h => h)
        have A3 := A3.keep hf (fun h => h)
        obtain ⟨a0, a1, a2⟩ := A1.key
        obtain ⟨b0, b1, b2⟩ := A2.key
        obtain ⟨c0, c1, c2⟩ := A3.key
        have HF := Lib.hid (HF.out.trans hf)
        clear hf
        go_wp2_with fail
        refine (cmp_c _ _ _ _ _ _ _).mono ?_
        intro e w1 hret
        rw [H23.out] at hret
        obtain ⟨rfl, hf⟩ := hret
        have A1 := A1.keep hf (fun h => h)
        have A2 := A2.keep hf (fun h => h)
        have A3 := A3.keep hf (fun h => h)
        obtain ⟨a0, a1, a2⟩ := A1.key
        obtain ⟨b0, b1, b2⟩ := A2.key
        obtain ⟨c0, c1, c2⟩ := A3.key
        have HF := Lib.hid (HF.out.trans hf)
        clear hf
        go_wp2_with fail
        refine (cmp_c _ _ _ _ _ _ _).mono ?_
        intro e w1 hret
        rw [H13.out] at hret
        obtain ⟨rfl, hf⟩ := hret
        have A1 := A1.keep hf (fun h => h)
        have A2 := A2.keep hf (fun h => h)
        have A3 := A3.keep hf (fun h => h)
        obtain ⟨a0, a1, a2⟩ := A1.key
        obtain ⟨b0, b1, b2⟩ := A2.key
        obtain ⟨c0, c1, c2⟩ := A3.key
        have HF := Lib.hid (HF.out.trans hf)
        clear hf
        go_wp2_with fail
        have HF := Lib.hid HF.out.drew
        go_region_held3 (fun w' => w'.cell? ⟨w.heap.size, 0, none⟩ = some (.string s) ∧ w'.cell? ⟨w.heap.size, 1, none⟩ = some (.int .i64 q) ∧ w'.cell? ⟨w.heap.size, 2, none⟩ = some (.int .i64 k) ∧ w'.cell? ⟨w.heap.size + 1, 0, none⟩ = some (.string s') ∧ w'.cell? ⟨w.heap.size + 1, 1, none⟩ = some (.int .i64 q') ∧ w'.cell? ⟨w.heap.size + 1, 2, none⟩ = some (.int .i64 k')) (first | assumption | go_keep)
          (first
            | (go_at_call 20; refine (cmp_c _ _ _ _ _ _ _).mono ?_; intro e wk hret; (first | rw [H12.out] at hret | rw [H11.out] at hret); obtain ⟨rfl, hf⟩ := hret
               have a0 := hf.cell (p := ⟨w.heap.size, 0, none⟩) (v := .string s) a0 (fun h => h)
               have a1 := hf.cell (p := ⟨w.heap.size, 1, none⟩) (v := .int .i64 q) a1 (fun h => h)
               have a2 := hf.cell (p := ⟨w.heap.size, 2, none⟩) (v := .int .i64 k) a2 (fun h => h)
               have b0 := hf.cell (p := ⟨w.heap.size + 1, 0, none⟩) (v := .string s') b0 (fun h => h)
               have b1 := hf.cell (p := ⟨w.heap.size + 1, 1, none⟩) (v := .int .i64 q') b1 (fun h => h)
               have b2 := hf.cell (p := ⟨w.heap.size + 1, 2, none⟩) (v := .int .i64 k') b2 (fun h => h)
               have HF := Lib.hid (HF.out.trans hf)
               clear hf)
            | (go_at_call 11; refine (CA.out _).mono ?_; intro e wk hret; obtain ⟨rfl, hf⟩ := hret
               have a0 := hf.cell (p := ⟨w.heap.size, 0, none⟩) (v := .string s) a0 (fun h => h)
               have a1 := hf.cell (p := ⟨w.heap.size, 1, none⟩) (v := .int .i64 q) a1 (fun h => h)
               have a2 := hf.cell (p := ⟨w.heap.size, 2, none⟩) (v := .int .i64 k) a2 (fun h => h)
               have b0 := hf.cell (p := ⟨w.heap.size + 1, 0, none⟩) (v := .string s') b0 (fun h => h)
               have b1 := hf.cell (p := ⟨w.heap.size + 1, 1, none⟩) (v := .int .i64 q') b1 (fun h => h)
               have b2 := hf.cell (p := ⟨w.heap.size + 1, 2, none⟩) (v := .int .i64 k') b2 (fun h => h)
               have HF := Lib.hid (HF.out.trans hf)
               clear hf))
        all_goals
          go_wp2_with fail
          go_ret
          exact ⟨rfl, HF.out⟩
      · as_aux_lemma =>
        go_enter Try.func8, Try.ntmps8
        go_wp2_with fail
        rw [HW.out]
        refine (CS1.out _).mono ?_
        rintro e w1 ⟨rfl, hf⟩
        have A1 := A1.keep hf (fun h => h)
        have A2 := A2.keep hf (fun h => h)
        have A3 := A3.keep hf (fun h => h)
        obtain ⟨a0, a1, a2⟩ := A1.key
        obtain ⟨b0, b1, b2⟩ := A2.key
        obtain ⟨c0, c1, c2⟩ := A3.key
        have HF := Lib.hid (HF.out.trans hf)
        clear hf
        go_wp2_with fail
        refine (CS2.out _).mono ?_
        rintro e w1 ⟨rfl, hf⟩
        have A1 := A1.keep hf (fun h => h)
        have A2 := A2.keep hf (fun h => h)
        have A3 := A3.keep hf (fun h => h)
        obtain ⟨a0, a1, a2⟩ := A1.key
        obtain ⟨b0, b1, b2⟩ := A2.key
        obtain ⟨c0, c1, c2⟩ := A3.key
        have HF := Lib.hid (HF.out.trans hf)
        clear hf
        go_wp2_with fail
        refine (CS3.out _).mono ?_
        rintro e w1 ⟨rfl, hf⟩
        have A1 := A1.keep hf (fun h => h)
        have A2 := A2.keep hf (fun h => h)
        have A3 := A3.keep hf (fun h => h)
        obtain ⟨a0, a1, a2⟩ := A1.key
        obtain ⟨b0, b1, b2⟩ := A2.key
        obtain ⟨c0, c1, c2⟩ := A3.key
        have HF := Lib.hid (HF.out.trans hf)
        clear hf
        go_wp2_with fail
        refine (cmp_c _ _ _ _ _ _ _).mono ?_
        intro e w1 hret
        rw [H12.out] at hret
        obtain ⟨rfl, hf⟩ := hret
        have A1 := A1.keep hf (fun h => h)
        have A2 := A2.keep hf (fun h => h)
        have A3 := A3.keep hf (fun h => h)
        obtain ⟨a0, a1, a2⟩ := A1.key
        obtain ⟨b0, b1, b2⟩ := A2.key
        obtain ⟨c0, c1, c2⟩ := A3.key
        have HF := Lib.hid (HF.out.trans hf)
        clear hf
        go_wp2_with fail
        refine (cmp_c _ _ _ _ _ _ _).mono ?_
        intro e w1 hret
        rw [H23.out] at hret
        obtain ⟨rfl, hf⟩ := hret
        have A1 := A1.keep hf (fun h => h)
        have A2 := A2.keep hf (fun h => h)
        have A3 := A3.keep hf (fun h => h)
        obtain ⟨a0, a1, a2⟩ := A1.key
        obtain ⟨b0, b1, b2⟩ := A2.key
        obtain ⟨c0, c1, c2⟩ := A3.key
        have HF := Lib.hid (HF.out.trans hf)
        clear hf
        go_wp2_with fail
        refine (cmp_c _ _ _ _ _ _ _).mono ?_
        intro e w1 hret
        rw [H13.out] at hret
        obtain ⟨rfl, hf⟩ := hret
        have A1 := A1.keep hf (fun h => h)
        have A2 := A2.keep hf (fun h => h)
        have A3 := A3.keep hf (fun h => h)
        obtain ⟨a0, a1, a2⟩ := A1.key
        obtain ⟨b0, b1, b2⟩ := A2.key
        obtain ⟨c0, c1, c2⟩ := A3.key
        have HF := Lib.hid (HF.out.trans hf)
        clear hf
        go_wp2_with fail
        have HF := Lib.hid HF.out.drew
        go_region_held3 (fun w' => w'.cell? ⟨w.heap.size, 0, none⟩ = some (.string s) ∧ w'.cell? ⟨w.heap.size, 1, none⟩ = some (.int .i64 q) ∧ w'.cell? ⟨w.heap.size, 2, none⟩ = some (.int .i64 k) ∧ w'.cell? ⟨w.heap.size + 1, 0, none⟩ = some (.string s') ∧ w'.cell? ⟨w.heap.size + 1, 1, none⟩ = some (.int .i64 q') ∧ w'.cell? ⟨w.heap.size + 1, 2, none⟩ = some (.int .i64 k')) (first | assumption | go_keep)
          (first
            | (go_at_call 20; refine (cmp_c _ _ _ _ _ _ _).mono ?_; intro e wk hret; (first | rw [H12.out] at hret | rw [H11.out] at hret); obtain ⟨rfl, hf⟩ := hret
               have a0 := hf.cell (p := ⟨w.heap.size, 0, none⟩) (v := .string s) a0 (fun h => h)
               have a1 := hf.cell (p := ⟨w.heap.size, 1, none⟩) (v := .int .i64 q) a1 (fun h => h)
               have a2 := hf.cell (p := ⟨w.heap.size, 2, none⟩) (v := .int .i64 k) a2 (fun h => h)
               have b0 := hf.cell (p := ⟨w.heap.size + 1, 0, none⟩) (v := .string s') b0 (fun h => h)
               have b1 := hf.cell (p := ⟨w.heap.size + 1, 1, none⟩) (v := .int .i64 q') b1 (fun h => h)
               have b2 := hf.cell (p := ⟨w.heap.size + 1, 2, none⟩) (v := .int .i64 k') b2 (fun h => h)
               have HF := Lib.hid (HF.out.trans hf)
               clear hf)
            | (go_at_call 11; refine (CA.out _).mono ?_; intro e wk hret; obtain ⟨rfl, hf⟩ := hret
               have a0 := hf.cell (p := ⟨w.heap.size, 0, none⟩) (v := .string s) a0 (fun h => h)
               have a1 := hf.cell (p := ⟨w.heap.size, 1, none⟩) (v := .int .i64 q) a1 (fun h => h)
               have a2 := hf.cell (p := ⟨w.heap.size, 2, none⟩) (v := .int .i64 k) a2 (fun h => h)
               have b0 := hf.cell (p := ⟨w.heap.size + 1, 0, none⟩) (v := .string s') b0 (fun h => h)
               have b1 := hf.cell (p := ⟨w.heap.size + 1, 1, none⟩) (v := .int .i64 q') b1 (fun h => h)
               have b2 := hf.cell (p := ⟨w.heap.size + 1, 2, none⟩) (v := .int .i64 k') b2 (fun h => h)
               have HF := Lib.hid (HF.out.trans hf)
               clear hf))
        all_goals
          go_wp2_with fail
          go_ret
          exact ⟨rfl, HF.out⟩
  · have g' : ¬ (s.size : Int) ≤ 300 ∨ ((s.size : Int) ≤ 300 ∧ ¬ (s'.size : Int) ≤ 300) ∨ ((s.size : Int) ≤ 300 ∧ (s'.size : Int) ≤ 300 ∧ ¬ (s''.size : Int) ≤ 300) := by omega
    clear g
    rcases g' with g1 | ⟨g1, g2⟩ | ⟨g1, g2, g3⟩
    · as_aux_lemma =>
      rw [decide_eq_false g1] at CS1
      have CS1 := Lib.hid CS1
      clear CS2
      clear CS3
      go_enter Try.func8, Try.ntmps8
      go_wp2_with fail
      rw [HW.out]
      refine (CS1.out _).mono ?_
      rintro e w1 ⟨rfl, hf⟩
      have A1 := A1.keep hf (fun h => h)
      have A2 := A2.keep hf (fun h => h)
      have A3 := A3.keep hf (fun h => h)
      obtain ⟨a0, a1, a2⟩ := A1.key
      obtain ⟨b0, b1, b2⟩ := A2.key
      obtain ⟨c0, c1, c2⟩ := A3.key
      have HF := Lib.hid (HF.out.trans hf)
      clear hf
      go_wp2_with fail
      refine (CA.out _).mono ?_
      rintro e w1 ⟨rfl, hf⟩
      have A1 := A1.keep hf (fun h => h)
      have A2 := A2.keep hf (fun h => h)
      have A3 := A3.keep hf (fun h => h)
      obtain ⟨a0, a1, a2⟩ := A1.key
      obtain ⟨b0, b1, b2⟩ := A2.key
      obtain ⟨c0, c1, c2⟩ := A3.key
      have HF := Lib.hid (HF.out.trans hf)
      clear hf
      go_wp2_with fail
      go_ret
      exact ⟨rfl, HF.out⟩
    · as_aux_lemma =>
      rw [decide_eq_true g1] at CS1
      have CS1 := Lib.hid CS1
      rw [decide_eq_false g2] at CS2
      have CS2 := Lib.hid CS2
      clear CS3
      go_enter Try.func8, Try.ntmps8
      go_wp2_with fail
      rw [HW.out]
      refine (CS1.out _).mono ?_
      rintro e w1 ⟨rfl, hf⟩
      have A1 := A1.keep hf (fun h => h)
      have A2 := A2.keep hf (fun h => h)
      have A3 := A3.keep hf (fun h => h)
      obtain ⟨a0, a1, a2⟩ := A1.key
      obtain ⟨b0, b1, b2⟩ := A2.key
      obtain ⟨c0, c1, c2⟩ := A3.key
      have HF := Lib.hid (HF.out.trans hf)
      clear hf
      go_wp2_with fail
      refine (CS2.out _).mono ?_
      rintro e w1 ⟨rfl, hf⟩
      have A1 := A1.keep hf (fun h => h)
      have A2 := A2.keep hf (fun h => h)
      have A3 := A3.keep hf (fun h => h)
      obtain ⟨a0, a1, a2⟩ := A1.key
      obtain ⟨b0, b1, b2⟩ := A2.key
      obtain ⟨c0, c1, c2⟩ := A3.key
      have HF := Lib.hid (HF.out.trans hf)
      clear hf
      go_wp2_with fail
      refine (CA.out _).mono ?_
      rintro e w1 ⟨rfl, hf⟩
      have A1 := A1.keep hf (fun h => h)
      have A2 := A2.keep hf (fun h => h)
      have A3 := A3.keep hf (fun h => h)
      obtain ⟨a0, a1, a2⟩ := A1.key
      obtain ⟨b0, b1, b2⟩ := A2.key
      obtain ⟨c0, c1, c2⟩ := A3.key
      have HF := Lib.hid (HF.out.trans hf)
      clear hf
      go_wp2_with fail
      go_ret
      exact ⟨rfl, HF.out⟩
    · as_aux_lemma =>
      rw [decide_eq_true g1] at CS1
      have CS1 := Lib.hid CS1
      rw [decide_eq_true g2] at CS2
      have CS2 := Lib.hid CS2
      rw [decide_eq_false g3] at CS3
      have CS3 := Lib.hid CS3
      go_enter Try.func8, Try.ntmps8
      go_wp2_with fail
      rw [HW.out]
      refine (CS1.out _).mono ?_
      rintro e w1 ⟨rfl, hf⟩
      have A1 := A1.keep hf (fun h => h)
      have A2 := A2.keep hf (fun h => h)
      have A3 := A3.keep hf (fun h => h)
      obtain ⟨a0, a1, a2⟩ := A1.key
      obtain ⟨b0, b1, b2⟩ := A2.key
      obtain ⟨c0, c1, c2⟩ := A3.key
      have HF := Lib.hid (HF.out.trans hf)
      clear hf
      go_wp2_with fail
      refine (CS2.out _).mono ?_
      rintro e w1 ⟨rfl, hf⟩
      have A1 := A1.keep hf (fun h => h)
      have A2 := A2.keep hf (fun h => h)
      have A3 := A3.keep hf (fun h => h)
      obtain ⟨a0, a1, a2⟩ := A1.key
      obtain ⟨b0, b1, b2⟩ := A2.key
      obtain ⟨c0, c1, c2⟩ := A3.key
      have HF := Lib.hid (HF.out.trans hf)
      clear hf
      go_wp2_with fail
      refine (CS3.out _).mono ?_
      rintro e w1 ⟨rfl, hf⟩
      have A1 := A1.keep hf (fun h => h)
      have A2 := A2.keep hf (fun h => h)
      have A3 := A3.keep hf (fun h => h)
      obtain ⟨a0, a1, a2⟩ := A1.key
      obtain ⟨b0, b1, b2⟩ := A2.key
      obtain ⟨c0, c1, c2⟩ := A3.key
      have HF := Lib.hid (HF.out.trans hf)
      clear hf
      go_wp2_with fail
      refine (CA.out _).mono ?_
      rintro e w1 ⟨rfl, hf⟩
      have A1 := A1.keep hf (fun h => h)
      have A2 := A2.keep hf (fun h => h)
      have A3 := A3.keep hf (fun h => h)
      obtain ⟨a0, a1, a2⟩ := A1.key
      obtain ⟨b0, b1, b2⟩ := A2.key
      obtain ⟨c0, c1, c2⟩ := A3.key
      have HF := Lib.hid (HF.out.trans hf)
      clear hf
      go_wp2_with fail
      go_ret
      exact ⟨rfl, HF.out⟩
theorem ikeyThree_walk (w : World) (s : ByteArray) (q k : Int) (_ : s.size ≤ maxLen) (_ : (Lit.int .i64 q).wf = true) (_ : (Lit.int .i64 k).wf = true) (s' : ByteArray) (q' k' : Int) (_ : s'.size ≤ maxLen) (_ : (Lit.int .i64 q').wf = true) (_ : (Lit.int .i64 k').wf = true)
    (s'' : ByteArray) (q'' k'' : Int) (_ : s''.size ≤ maxLen) (_ : (Lit.int .i64 q'').wf = true) (_ : (Lit.int .i64 k'').wf = true) :
    Calls Try.prog 8 #[.agg #[.string s, .int .i64 q, .int .i64 k], .agg #[.string s', .int .i64 q', .int .i64 k'], .agg #[.string s'', .int .i64 q'', .int .i64 k'']] w fun e w' => e = .returned (.bool true) ∧ Below w.heap.size w w' :=
  (three_c s s' s'' q k q' k' q'' k'' w).mono fun _ _ h => h.post
end Go.Proofs.Ytdpfgkjjjjkfkaa
