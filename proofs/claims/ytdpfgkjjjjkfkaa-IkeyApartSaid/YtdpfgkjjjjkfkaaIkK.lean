/-
  The walk of IkeyApart.
-/
import Derived.Test.YtdpfgkjjjjkfkaaIkI
import Derived.Test.YtdpfgkjjjjkfkaaIkJ
import Derived.Test.YtdpfgkjjjjkfkaaAppK
namespace Go.Proofs.Ytdpfgkjjjjkfkaa
set_option linter.unusedVariables false
open Go.RowKit

theorem apart_ways (s s' : ByteArray) (q k q' k' : Int) :
    ((s.toList == s'.toList) = true ∧ (q == q') = true ∧ (k == k') = true) ∨ (¬ (s.data.toList = s'.data.toList ∧ q = q' ∧ k = k') ∧ ((s.toList == s'.toList) = false ∨ ((s.toList == s'.toList) = true ∧ (q == q') = false) ∨ ((s.toList == s'.toList) = true ∧ (q == q') = true ∧ (k == k') = false))) := by
  obtain ⟨c, hc⟩ : ∃ c, cmpK s.data.toList q k s'.data.toList q' k' = c := ⟨_, rfl⟩
  have hz := cmpK_zero s.data.toList q k s'.data.toList q' k'
  rw [hc] at hz
  rcases key_ways s s' q k q' k' c hc with ⟨h1, h2, h3, _⟩ | ⟨h1, h0⟩ | ⟨h1, h2, h0⟩ | ⟨h1, h2, h3, h0⟩
  · exact .inl ⟨h1, h2, h3⟩
  · exact .inr ⟨fun h => by rw [beq_eq_false_iff_ne] at h0; exact h0 (hz.2 h), .inl h1⟩
  · exact .inr ⟨fun h => by rw [beq_eq_false_iff_ne] at h0; exact h0 (hz.2 h), .inr (.inl ⟨h1, h2⟩)⟩
  · exact .inr ⟨fun h => by rw [beq_eq_false_iff_ne] at h0; exact h0 (hz.2 h), .inr (.inr ⟨h1, h2, h3⟩)⟩
set_option maxRecDepth 20000 in
set_option maxHeartbeats 30000000 in
theorem apart_c (s s' : ByteArray) (q k q' k' : Int) (tl : Option Addr) (tc : Nat) (lt : List UInt8) (ht : lt.length ≤ maxLen) (w : World) (hrt : Rd w tl lt) :
    Calls Try.prog 9 #[.agg #[.string s, .int .i64 q, .int .i64 k], .agg #[.string s', .int .i64 q', .int .i64 k'], .slice tl lt.length tc] w (Yes w) := by
  unfold maxLen at ht
  have CA := Lib.hid awake_c
  have HT := Lib.hid (In.of_rd hrt)
  clear hrt
  obtain ⟨W, hW, hf, A1, A2⟩ := boxes2 w 23 #[.string s, .int .i64 q, .int .i64 k] #[.string s', .int .i64 q', .int .i64 k']
  have HW := Lib.hid hW
  have HF := Lib.hid hf
  have HT := Lib.hid (HT.out.keep hf (fun _ _ h => h))
  clear hW hf
  have CS1 := fun w => small_c s q k w
  have CS2 := fun w => small_c s' q' k' w
  by_cases g : (s.size : Int) ≤ 300 ∧ (s'.size : Int) ≤ 300 ∧ lt.length ≤ 100
  · obtain ⟨g1, g2, g3⟩ := g
    rw [decide_eq_true g1] at CS1
    rw [decide_eq_true g2] at CS2
    have CS1 := Lib.hid CS1
    have CS2 := Lib.hid CS2
    have hu1 : s.size ≤ 300 := by omega
    have hu2 : s'.size ≤ 300 := by omega
    clear g1 g2 ht
    have key : (Rt s.size q k ∧ Rt s'.size q' k') ∨ ¬ Rt s.size q k ∨ (Rt s.size q k ∧ ¬ Rt s'.size q' k') := by
      by_cases h1 : Rt s.size q k
      · by_cases h2 : Rt s'.size q' k'
        · exact .inl ⟨h1, h2⟩
        · exact .inr (.inr ⟨h1, h2⟩)
      · exact .inr (.inl h1)
    rcases key with hr | hr | hr
    · obtain ⟨r1, r2⟩ := hr
      rcases apart_ways s s' q k q' k' with ⟨k1, k2, k3⟩ | ⟨hne, k1 | ⟨k1, k2⟩ | ⟨k1, k2, k3⟩⟩
      · as_aux_lemma =>
        obtain ⟨X, hX⟩ : ∃ X, encK s.data.toList q k = X := ⟨_, rfl⟩
        obtain ⟨Y, hY⟩ : ∃ Y, encK s'.data.toList q' k' = Y := ⟨_, rfl⟩
        have CX := fun w => bytes_yes s q k w r1
        have CY := fun w => bytes_yes s' q' k' w r2
        rw [hX] at CX
        rw [hY] at CY
        have CX := Lib.hid CX
        have CY := Lib.hid CY
        clear hX hY r1 r2 hu1 hu2
        go_enter Try.func9, Try.ntmps9
        go_wp2_with fail
        rw [HW.out]
        refine (CS1.out _).mono ?_
        rintro e w1 ⟨rfl, hf⟩
        have HT := Lib.hid (HT.out.keep hf (fun _ _ h => h))
        have A1 := A1.keep hf (fun h => h)
        have A2 := A2.keep hf (fun h => h)
        obtain ⟨a0, a1, a2⟩ := A1.key
        obtain ⟨b0, b1, b2⟩ := A2.key
        have HF := Lib.hid (HF.out.trans hf)
        clear hf
        go_wp2_with fail
        refine (CS2.out _).mono ?_
        rintro e w1 ⟨rfl, hf⟩
        have HT := Lib.hid (HT.out.keep hf (fun _ _ h => h))
        have A1 := A1.keep hf (fun h => h)
        have A2 := A2.keep hf (fun h => h)
        obtain ⟨a0, a1, a2⟩ := A1.key
        obtain ⟨b0, b1, b2⟩ := A2.key
        have HF := Lib.hid (HF.out.trans hf)
        clear hf
        go_wp2_with fail
        refine (CX.out _).mono ?_
        rintro e w1 ⟨x, cx, rfl, hrow, hf⟩
        clear hrow
        have HT := Lib.hid (HT.out.keep hf (fun _ _ h => h))
        have A1 := A1.keep hf (fun h => h)
        have A2 := A2.keep hf (fun h => h)
        obtain ⟨a0, a1, a2⟩ := A1.key
        obtain ⟨b0, b1, b2⟩ := A2.key
        have HF := Lib.hid (HF.out.trans hf)
        clear hf
        go_wp2_with fail
        refine (CY.out _).mono ?_
        rintro e w1 ⟨y, cy, rfl, hrow, hf⟩
        clear hrow
        have HT := Lib.hid (HT.out.keep hf (fun _ _ h => h))
        have A1 := A1.keep hf (fun h => h)
        have A2 := A2.keep hf (fun h => h)
        obtain ⟨a0, a1, a2⟩ := A1.key
        obtain ⟨b0, b1, b2⟩ := A2.key
        have HF := Lib.hid (HF.out.trans hf)
        clear hf
        go_wp2_with fail
        refine (CA.out _).mono ?_
        rintro e w1 ⟨rfl, hf⟩
        have HT := Lib.hid (HT.out.keep hf (fun _ _ h => h))
        have A1 := A1.keep hf (fun h => h)
        have A2 := A2.keep hf (fun h => h)
        obtain ⟨a0, a1, a2⟩ := A1.key
        obtain ⟨b0, b1, b2⟩ := A2.key
        have HF := Lib.hid (HF.out.trans hf)
        clear hf
        go_wp2_with fail
        go_ret
        exact ⟨rfl, HF.out⟩
      · as_aux_lemma =>
        obtain ⟨X, hX⟩ : ∃ X, encK s.data.toList q k = X := ⟨_, rfl⟩
        obtain ⟨Y, hY⟩ : ∃ Y, encK s'.data.toList q' k' = Y := ⟨_, rfl⟩
        have CX := fun w => bytes_yes s q k w r1
        have CY := fun w => bytes_yes s' q' k' w r2
        obtain ⟨x, hx⟩ : ∃ x, decide (cmpK s.data.toList q k s'.data.toList q' k' < 0) = x := ⟨_, rfl⟩
        have h0 := cmpB_encK_tail s.data.toList q k s'.data.toList q' k' _ _ r1 r2 hne [] []
        have h1 := cmpB_encK_tail s.data.toList q k s'.data.toList q' k' _ _ r1 r2 hne lt []
        have h2 := cmpB_encK_tail s.data.toList q k s'.data.toList q' k' _ _ r1 r2 hne [] lt
        rw [hX, hY, List.append_nil, List.append_nil] at h0
        rw [hX, hY, List.append_nil] at h1 h2
        have H0 := Lib.hid (show decide (Lib.compareBytes X Y < 0) = x by rw [show Lib.compareBytes X Y = _ from h0]; exact hx)
        have H1 := Lib.hid (show decide (Lib.compareBytes (X ++ lt) Y < 0) = x by rw [show Lib.compareBytes (X ++ lt) Y = _ from h1]; exact hx)
        have H2 := Lib.hid (show decide (Lib.compareBytes X (Y ++ lt) < 0) = x by rw [show Lib.compareBytes X (Y ++ lt) = _ from h2]; exact hx)
        have hlx : X.length ≤ 10000 := by
          have h1 := escs_length s.data.toList
          rw [ba_len] at h1
          rw [← hX, encK, List.length_append, List.length_append, tailB_length]
          simp only [List.length_cons, List.length_nil]
          omega
        have hly : Y.length ≤ 10000 := by
          have h1 := escs_length s'.data.toList
          rw [ba_len] at h1
          rw [← hY, encK, List.length_append, List.length_append, tailB_length]
          simp only [List.length_cons, List.length_nil]
          omega
        clear h0 h1 h2 hx hne
        rw [hX] at CX
        rw [hY] at CY
        have CX := Lib.hid CX
        have CY := Lib.hid CY
        clear hX hY r1 r2 hu1 hu2
        go_enter Try.func9, Try.ntmps9
        go_wp2_with fail
        rw [HW.out]
        refine (CS1.out _).mono ?_
        rintro e w1 ⟨rfl, hf⟩
        have HT := Lib.hid (HT.out.keep hf (fun _ _ h => h))
        have A1 := A1.keep hf (fun h => h)
        have A2 := A2.keep hf (fun h => h)
        obtain ⟨a0, a1, a2⟩ := A1.key
        obtain ⟨b0, b1, b2⟩ := A2.key
        have HF := Lib.hid (HF.out.trans hf)
        clear hf
        go_wp2_with fail
        refine (CS2.out _).mono ?_
        rintro e w1 ⟨rfl, hf⟩
        have HT := Lib.hid (HT.out.keep hf (fun _ _ h => h))
        have A1 := A1.keep hf (fun h => h)
        have A2 := A2.keep hf (fun h => h)
        obtain ⟨a0, a1, a2⟩ := A1.key
        obtain ⟨b0, b1, b2⟩ := A2.key
        have HF := Lib.hid (HF.out.trans hf)
        clear hf
        rename World => wa
        have SZ := Lib.hid HF.out.size
        go_wp2_with fail
        refine (CX.out _).mono ?_
        rintro e w1 ⟨x, cx, rfl, hrow, hf⟩
        have HX := Lib.hid hrow
        clear hrow
        have HT := Lib.hid (HT.out.keep hf (fun _ _ h => h))
        have A1 := A1.keep hf (fun h => h)
        have A2 := A2.keep hf (fun h => h)
        obtain ⟨a0, a1, a2⟩ := A1.key
        obtain ⟨b0, b1, b2⟩ := A2.key
        have HF := Lib.hid (HF.out.trans hf)
        clear hf
        rename World => wx
        have SX := Lib.hid HF.out.size
        go_wp2_with fail
        refine (CY.out _).mono ?_
        rintro e w1 ⟨y, cy, rfl, hrow, hf⟩
        have HY := Lib.hid hrow
        have HX := Lib.hid (HX.out.keep hf (fun _ _ h => h))
        have SY := Lib.hid hf.size
        clear hrow
        have HT := Lib.hid (HT.out.keep hf (fun _ _ h => h))
        have A1 := A1.keep hf (fun h => h)
        have A2 := A2.keep hf (fun h => h)
        obtain ⟨a0, a1, a2⟩ := A1.key
        obtain ⟨b0, b1, b2⟩ := A2.key
        have HF := Lib.hid (HF.out.trans hf)
        clear hf
        rename World => wy
        obtain ⟨x2, cx2, hv, hcx, hmx, hinx⟩ := HX.out.form
        simp only [Value.slice.injEq, true_and] at hv
        obtain ⟨rfl, rfl⟩ := hv
        obtain ⟨y2, cy2, hv, hcy, hmy, hiny⟩ := HY.out.form
        simp only [Value.slice.injEq, true_and] at hv
        obtain ⟨rfl, rfl⟩ := hv
        have CL := less_c _ _ _ cx _ cy X Y wy rfl rfl hinx.rd hiny.rd
        rw [H0.out] at CL
        have CL := Lib.hid CL
        obtain ⟨xa, xn, xc, wz, hrun1, hn1, hra1, hfr1, hrx1⟩ := HX.out.append_keep tl lt.length tc lt rfl HT.out.rd (by omega)
        have HYz := HY.out.keep hfr1 (fun k hy hx => by
          rcases hy with hy | hy
          · exact hy
          · rcases hx with hx | hx
            · exact hx
            · omega)
        have HTz := HT.out.keep hfr1 (fun k hk hx => by
          have := SZ.out
          unfold Till at hk
          rcases hx with hx | hx
          · exact hx
          · omega)
        obtain ⟨y3, cy3, hv, _, _, hinyz⟩ := HYz.form
        simp only [Value.slice.injEq, true_and] at hv
        obtain ⟨rfl, rfl⟩ := hv
        have CL1 := less_c xa y xn xc _ cy (X ++ lt) Y wz (by rw [List.length_append]; exact hn1.symm) rfl hra1 hinyz.rd
        rw [H1.out] at CL1
        have CL1 := Lib.hid CL1
        have hinxz := hinx.again hrx1
        obtain ⟨ya, yn, yc, wv, hrun2, hn2, hra2, hfr2, _⟩ := HYz.append_keep tl lt.length tc lt rfl HTz.rd (by omega)
        have hinxv := hinxz.keep hfr2 (fun k hx hy => by
          rcases hy with hy | hy
          · exact hy
          · rcases hx with hx | hx
            · exact hx
            · omega)
        have CL2 := less_c x ya _ cx yn yc X (Y ++ lt) wv rfl (by rw [List.length_append]; exact hn2.symm) hinxv.rd hra2
        rw [H2.out] at CL2
        have CL2 := Lib.hid CL2
        have HFv := Lib.hid ((HF.out.then_ hfr1 (fun k hk h => by
          have := SZ.out
          rcases h with h | h
          · exact h
          · omega)).then_ hfr2 (fun k hk h => by
          have := SZ.out
          rcases h with h | h
          · exact h
          · have := SX.out
            omega))
        have HR1 := Lib.hid hrun1
        have HR2 := Lib.hid hrun2
        unfold maxLen at hmx hmy
        clear hrun1 hrun2 hn1 hn2 hra1 hra2 hfr1 hfr2 hrx1 HYz HTz hinyz hinx hiny hinxz hinxv HX HY HT SZ
        go_wp2_with fail
        refine CL.out.mono ?_
        rintro e w1 ⟨rfl, rfl⟩
        go_wp2_with (at_builtin; refine wpList_append_run rfl _ _ 26 rfl rfl rfl HR1.out ?_)
        refine CL1.out.mono ?_
        rintro e w1 ⟨rfl, rfl⟩
        cases x
        · go_wp2_with (at_builtin; refine wpList_append_runG rfl _ _ 26 rfl rfl rfl HR2.out ?_)
          refine CL2.out.mono ?_
          rintro e w1 ⟨rfl, rfl⟩
          go_wp2_with fail
          refine (CA.out _).mono ?_
          rintro e w1 ⟨rfl, hf⟩
          go_wp2_with fail
          go_ret
          exact ⟨rfl, HFv.out.trans hf⟩
        · go_wp2_with (at_builtin; refine wpList_append_runG rfl _ _ 26 rfl rfl rfl HR2.out ?_)
          refine CL2.out.mono ?_
          rintro e w1 ⟨rfl, rfl⟩
          go_wp2_with fail
          refine (CA.out _).mono ?_
          rintro e w1 ⟨rfl, hf⟩
          go_wp2_with fail
          go_ret
          exact ⟨rfl, HFv.out.trans hf⟩
      · as_aux_lemma =>
        obtain ⟨X, hX⟩ : ∃ X, encK s.data.toList q k = X := ⟨_, rfl⟩
        obtain ⟨Y, hY⟩ : ∃ Y, encK s'.data.toList q' k' = Y := ⟨_, rfl⟩
        have CX := fun w => bytes_yes s q k w r1
        have CY := fun w => bytes_yes s' q' k' w r2
        obtain ⟨x, hx⟩ : ∃ x, decide (cmpK s.data.toList q k s'.data.toList q' k' < 0) = x := ⟨_, rfl⟩
        have h0 := cmpB_encK_tail s.data.toList q k s'.data.toList q' k' _ _ r1 r2 hne [] []
        have h1 := cmpB_encK_tail s.data.toList q k s'.data.toList q' k' _ _ r1 r2 hne lt []
        have h2 := cmpB_encK_tail s.data.toList q k s'.data.toList q' k' _ _ r1 r2 hne [] lt
        rw [hX, hY, List.append_nil, List.append_nil] at h0
        rw [hX, hY, List.append_nil] at h1 h2
        have H0 := Lib.hid (show decide (Lib.compareBytes X Y < 0) = x by rw [show Lib.compareBytes X Y = _ from h0]; exact hx)
        have H1 := Lib.hid (show decide (Lib.compareBytes (X ++ lt) Y < 0) = x by rw [show Lib.compareBytes (X ++ lt) Y = _ from h1]; exact hx)
        have H2 := Lib.hid (show decide (Lib.compareBytes X (Y ++ lt) < 0) = x by rw [show Lib.compareBytes X (Y ++ lt) = _ from h2]; exact hx)
        have hlx : X.length ≤ 10000 := by
          have h1 := escs_length s.data.toList
          rw [ba_len] at h1
          rw [← hX, encK, List.length_append, List.length_append, tailB_length]
          simp only [List.length_cons, List.length_nil]
          omega
        have hly : Y.length ≤ 10000 := by
          have h1 := escs_length s'.data.toList
          rw [ba_len] at h1
          rw [← hY, encK, List.length_append, List.length_append, tailB_length]
          simp only [List.length_cons, List.length_nil]
          omega
        clear h0 h1 h2 hx hne
        rw [hX] at CX
        rw [hY] at CY
        have CX := Lib.hid CX
        have CY := Lib.hid CY
        clear hX hY r1 r2 hu1 hu2
        go_enter Try.func9, Try.ntmps9
        go_wp2_with fail
        rw [HW.out]
        refine (CS1.out _).mono ?_
        rintro e w1 ⟨rfl, hf⟩
        have HT := Lib.hid (HT.out.keep hf (fun _ _ h => h))
        have A1 := A1.keep hf (fun h => h)
        have A2 := A2.keep hf (fun h => h)
        obtain ⟨a0, a1, a2⟩ := A1.key
        obtain ⟨b0, b1, b2⟩ := A2.key
        have HF := Lib.hid (HF.out.trans hf)
        clear hf
        go_wp2_with fail
        refine (CS2.out _).mono ?_
        rintro e w1 ⟨rfl, hf⟩
        have HT := Lib.hid (HT.out.keep hf (fun _ _ h => h))
        have A1 := A1.keep hf (fun h => h)
        have A2 := A2.keep hf (fun h => h)
        obtain ⟨a0, a1, a2⟩ := A1.key
        obtain ⟨b0, b1, b2⟩ := A2.key
        have HF := Lib.hid (HF.out.trans hf)
        clear hf
        rename World => wa
        have SZ := Lib.hid HF.out.size
        go_wp2_with fail
        refine (CX.out _).mono ?_
        rintro e w1 ⟨x, cx, rfl, hrow, hf⟩
        have HX := Lib.hid hrow
        clear hrow
        have HT := Lib.hid (HT.out.keep hf (fun _ _ h => h))
        have A1 := A1.keep hf (fun h => h)
        have A2 := A2.keep hf (fun h => h)
        obtain ⟨a0, a1, a2⟩ := A1.key
        obtain ⟨b0, b1, b2⟩ := A2.key
        have HF := Lib.hid (HF.out.trans hf)
        clear hf
        rename World => wx
        have SX := Lib.hid HF.out.size
        go_wp2_with fail
        refine (CY.out _).mono ?_
        rintro e w1 ⟨y, cy, rfl, hrow, hf⟩
        have HY := Lib.hid hrow
        have HX := Lib.hid (HX.out.keep hf (fun _ _ h => h))
        have SY := Lib.hid hf.size
        clear hrow
        have HT := Lib.hid (HT.out.keep hf (fun _ _ h => h))
        have A1 := A1.keep hf (fun h => h)
        have A2 := A2.keep hf (fun h => h)
        obtain ⟨a0, a1, a2⟩ := A1.key
        obtain ⟨b0, b1, b2⟩ := A2.key
        have HF := Lib.hid (HF.out.trans hf)
        clear hf
        rename World => wy
        obtain ⟨x2, cx2, hv, hcx, hmx, hinx⟩ := HX.out.form
        simp only [Value.slice.injEq, true_and] at hv
        obtain ⟨rfl, rfl⟩ := hv
        obtain ⟨y2, cy2, hv, hcy, hmy, hiny⟩ := HY.out.form
        simp only [Value.slice.injEq, true_and] at hv
        obtain ⟨rfl, rfl⟩ := hv
        have CL := less_c _ _ _ cx _ cy X Y wy rfl rfl hinx.rd hiny.rd
        rw [H0.out] at CL
        have CL := Lib.hid CL
        obtain ⟨xa, xn, xc, wz, hrun1, hn1, hra1, hfr1, hrx1⟩ := HX.out.append_keep tl lt.length tc lt rfl HT.out.rd (by omega)
        have HYz := HY.out.keep hfr1 (fun k hy hx => by
          rcases hy with hy | hy
          · exact hy
          · rcases hx with hx | hx
            · exact hx
            · omega)
        have HTz := HT.out.keep hfr1 (fun k hk hx => by
          have := SZ.out
          unfold Till at hk
          rcases hx with hx | hx
          · exact hx
          · omega)
        obtain ⟨y3, cy3, hv, _, _, hinyz⟩ := HYz.form
        simp only [Value.slice.injEq, true_and] at hv
        obtain ⟨rfl, rfl⟩ := hv
        have CL1 := less_c xa y xn xc _ cy (X ++ lt) Y wz (by rw [List.length_append]; exact hn1.symm) rfl hra1 hinyz.rd
        rw [H1.out] at CL1
        have CL1 := Lib.hid CL1
        have hinxz := hinx.again hrx1
        obtain ⟨ya, yn, yc, wv, hrun2, hn2, hra2, hfr2, _⟩ := HYz.append_keep tl lt.length tc lt rfl HTz.rd (by omega)
        have hinxv := hinxz.keep hfr2 (fun k hx hy => by
          rcases hy with hy | hy
          · exact hy
          · rcases hx with hx | hx
            · exact hx
            · omega)
        have CL2 := less_c x ya _ cx yn yc X (Y ++ lt) wv rfl (by rw [List.length_append]; exact hn2.symm) hinxv.rd hra2
        rw [H2.out] at CL2
        have CL2 := Lib.hid CL2
        have HFv := Lib.hid ((HF.out.then_ hfr1 (fun k hk h => by
          have := SZ.out
          rcases h with h | h
          · exact h
          · omega)).then_ hfr2 (fun k hk h => by
          have := SZ.out
          rcases h with h | h
          · exact h
          · have := SX.out
            omega))
        have HR1 := Lib.hid hrun1
        have HR2 := Lib.hid hrun2
        unfold maxLen at hmx hmy
        clear hrun1 hrun2 hn1 hn2 hra1 hra2 hfr1 hfr2 hrx1 HYz HTz hinyz hinx hiny hinxz hinxv HX HY HT SZ
        go_wp2_with fail
        refine CL.out.mono ?_
        rintro e w1 ⟨rfl, rfl⟩
        go_wp2_with (at_builtin; refine wpList_append_run rfl _ _ 26 rfl rfl rfl HR1.out ?_)
        refine CL1.out.mono ?_
        rintro e w1 ⟨rfl, rfl⟩
        cases x
        · go_wp2_with (at_builtin; refine wpList_append_runG rfl _ _ 26 rfl rfl rfl HR2.out ?_)
          refine CL2.out.mono ?_
          rintro e w1 ⟨rfl, rfl⟩
          go_wp2_with fail
          refine (CA.out _).mono ?_
          rintro e w1 ⟨rfl, hf⟩
          go_wp2_with fail
          go_ret
          exact ⟨rfl, HFv.out.trans hf⟩
        · go_wp2_with (at_builtin; refine wpList_append_runG rfl _ _ 26 rfl rfl rfl HR2.out ?_)
          refine CL2.out.mono ?_
          rintro e w1 ⟨rfl, rfl⟩
          go_wp2_with fail
          refine (CA.out _).mono ?_
          rintro e w1 ⟨rfl, hf⟩
          go_wp2_with fail
          go_ret
          exact ⟨rfl, HFv.out.trans hf⟩
      · as_aux_lemma =>
        obtain ⟨X, hX⟩ : ∃ X, encK s.data.toList q k = X := ⟨_, rfl⟩
        obtain ⟨Y, hY⟩ : ∃ Y, encK s'.data.toList q' k' = Y := ⟨_, rfl⟩
        have CX := fun w => bytes_yes s q k w r1
        have CY := fun w => bytes_yes s' q' k' w r2
        obtain ⟨x, hx⟩ : ∃ x, decide (cmpK s.data.toList q k s'.data.toList q' k' < 0) = x := ⟨_, rfl⟩
        have h0 := cmpB_encK_tail s.data.toList q k s'.data.toList q' k' _ _ r1 r2 hne [] []
        have h1 := cmpB_encK_tail s.data.toList q k s'.data.toList q' k' _ _ r1 r2 hne lt []
        have h2 := cmpB_encK_tail s.data.toList q k s'.data.toList q' k' _ _ r1 r2 hne [] lt
        rw [hX, hY, List.append_nil, List.append_nil] at h0
        rw [hX, hY, List.append_nil] at h1 h2
        have H0 := Lib.hid (show decide (Lib.compareBytes X Y < 0) = x by rw [show Lib.compareBytes X Y = _ from h0]; exact hx)
        have H1 := Lib.hid (show decide (Lib.compareBytes (X ++ lt) Y < 0) = x by rw [show Lib.compareBytes (X ++ lt) Y = _ from h1]; exact hx)
        have H2 := Lib.hid (show decide (Lib.compareBytes X (Y ++ lt) < 0) = x by rw [show Lib.compareBytes X (Y ++ lt) = _ from h2]; exact hx)
        have hlx : X.length ≤ 10000 := by
          have h1 := escs_length s.data.toList
          rw [ba_len] at h1
          rw [← hX, encK, List.length_append, List.length_append, tailB_length]
          simp only [List.length_cons, List.length_nil]
          omega
        have hly : Y.length ≤ 10000 := by
          have h1 := escs_length s'.data.toList
          rw [ba_len] at h1
          rw [← hY, encK, List.length_append, List.length_append, tailB_length]
          simp only [List.length_cons, List.length_nil]
          omega
        clear h0 h1 h2 hx hne
        rw [hX] at CX
        rw [hY] at CY
        have CX := Lib.hid CX
        have CY := Lib.hid CY
        clear hX hY r1 r2 hu1 hu2
        go_enter Try.func9, Try.ntmps9
        go_wp2_with fail
        rw [HW.out]
        refine (CS1.out _).mono ?_
        rintro e w1 ⟨rfl, hf⟩
        have HT := Lib.hid (HT.out.keep hf (fun _ _ h => h))
        have A1 := A1.keep hf (fun h => h)
        have A2 := A2.keep hf (fun h => h)
        obtain ⟨a0, a1, a2⟩ := A1.key
        obtain ⟨b0, b1, b2⟩ := A2.key
        have HF := Lib.hid (HF.out.trans hf)
        clear hf
        go_wp2_with fail
        refine (CS2.out _).mono ?_
        rintro e w1 ⟨rfl, hf⟩
        have HT := Lib.hid (HT.out.keep hf (fun _ _ h => h))
        have A1 := A1.keep hf (fun h => h)
        have A2 := A2.keep hf (fun h => h)
        obtain ⟨a0, a1, a2⟩ := A1.key
        obtain ⟨b0, b1, b2⟩ := A2.key
        have HF := Lib.hid (HF.out.trans hf)
        clear hf
        rename World => wa
        have SZ := Lib.hid HF.out.size
        go_wp2_with fail
        refine (CX.out _).mono ?_
        rintro e w1 ⟨x, cx, rfl, hrow, hf⟩
        have HX := Lib.hid hrow
        clear hrow
        have HT := Lib.hid (HT.out.keep hf (fun _ _ h => h))
        have A1 := A1.keep hf (fun h => h)
        have A2 := A2.keep hf (fun h => h)
        obtain ⟨a0, a1, a2⟩ := A1.key
        obtain ⟨b0, b1, b2⟩ := A2.key
        have HF := Lib.hid (HF.out.trans hf)
        clear hf
        rename World => wx
        have SX := Lib.hid HF.out.size
        go_wp2_with fail
        refine (CY.out _).mono ?_
        rintro e w1 ⟨y, cy, rfl, hrow, hf⟩
        have HY := Lib.hid hrow
        have HX := Lib.hid (HX.out.keep hf (fun _ _ h => h))
        have SY := Lib.hid hf.size
        clear hrow
        have HT := Lib.hid (HT.out.keep hf (fun _ _ h => h))
        have A1 := A1.keep hf (fun h => h)
        have A2 := A2.keep hf (fun h => h)
        obtain ⟨a0, a1, a2⟩ := A1.key
        obtain ⟨b0, b1, b2⟩ := A2.key
        have HF := Lib.hid (HF.out.trans hf)
        clear hf
        rename World => wy
        obtain ⟨x2, cx2, hv, hcx, hmx, hinx⟩ := HX.out.form
        simp only [Value.slice.injEq, true_and] at hv
        obtain ⟨rfl, rfl⟩ := hv
        obtain ⟨y2, cy2, hv, hcy, hmy, hiny⟩ := HY.out.form
        simp only [Value.slice.injEq, true_and] at hv
        obtain ⟨rfl, rfl⟩ := hv
        have CL := less_c _ _ _ cx _ cy X Y wy rfl rfl hinx.rd hiny.rd
        rw [H0.out] at CL
        have CL := Lib.hid CL
        obtain ⟨xa, xn, xc, wz, hrun1, hn1, hra1, hfr1, hrx1⟩ := HX.out.append_keep tl lt.length tc lt rfl HT.out.rd (by omega)
        have HYz := HY.out.keep hfr1 (fun k hy hx => by
          rcases hy with hy | hy
          · exact hy
          · rcases hx with hx | hx
            · exact hx
            · omega)
        have HTz := HT.out.keep hfr1 (fun k hk hx => by
          have := SZ.out
          unfold Till at hk
          rcases hx with hx | hx
          · exact hx
          · omega)
        obtain ⟨y3, cy3, hv, _, _, hinyz⟩ := HYz.form
        simp only [Value.slice.injEq, true_and] at hv
        obtain ⟨rfl, rfl⟩ := hv
        have CL1 := less_c xa y xn xc _ cy (X ++ lt) Y wz (by rw [List.length_append]; exact hn1.symm) rfl hra1 hinyz.rd
        rw [H1.out] at CL1
        have CL1 := Lib.hid CL1
        have hinxz := hinx.again hrx1
        obtain ⟨ya, yn, yc, wv, hrun2, hn2, hra2, hfr2, _⟩ := HYz.append_keep tl lt.length tc lt rfl HTz.rd (by omega)
        have hinxv := hinxz.keep hfr2 (fun k hx hy => by
          rcases hy with hy | hy
          · exact hy
          · rcases hx with hx | hx
            · exact hx
            · omega)
        have CL2 := less_c x ya _ cx yn yc X (Y ++ lt) wv rfl (by rw [List.length_append]; exact hn2.symm) hinxv.rd hra2
        rw [H2.out] at CL2
        have CL2 := Lib.hid CL2
        have HFv := Lib.hid ((HF.out.then_ hfr1 (fun k hk h => by
          have := SZ.out
          rcases h with h | h
          · exact h
          · omega)).then_ hfr2 (fun k hk h => by
          have := SZ.out
          rcases h with h | h
          · exact h
          · have := SX.out
            omega))
        have HR1 := Lib.hid hrun1
        have HR2 := Lib.hid hrun2
        unfold maxLen at hmx hmy
        clear hrun1 hrun2 hn1 hn2 hra1 hra2 hfr1 hfr2 hrx1 HYz HTz hinyz hinx hiny hinxz hinxv HX HY HT SZ
        go_wp2_with fail
        refine CL.out.mono ?_
        rintro e w1 ⟨rfl, rfl⟩
        go_wp2_with (at_builtin; refine wpList_append_run rfl _ _ 26 rfl rfl rfl HR1.out ?_)
        refine CL1.out.mono ?_
        rintro e w1 ⟨rfl, rfl⟩
        cases x
        · go_wp2_with (at_builtin; refine wpList_append_runG rfl _ _ 26 rfl rfl rfl HR2.out ?_)
          refine CL2.out.mono ?_
          rintro e w1 ⟨rfl, rfl⟩
          go_wp2_with fail
          refine (CA.out _).mono ?_
          rintro e w1 ⟨rfl, hf⟩
          go_wp2_with fail
          go_ret
          exact ⟨rfl, HFv.out.trans hf⟩
        · go_wp2_with (at_builtin; refine wpList_append_runG rfl _ _ 26 rfl rfl rfl HR2.out ?_)
          refine CL2.out.mono ?_
          rintro e w1 ⟨rfl, rfl⟩
          go_wp2_with fail
          refine (CA.out _).mono ?_
          rintro e w1 ⟨rfl, hf⟩
          go_wp2_with fail
          go_ret
          exact ⟨rfl, HFv.out.trans hf⟩
    · as_aux_lemma =>
      have CX := Lib.hid (fun w => bytes_no s q k w hr)
      have hY : Rt s'.size q' k' ∨ ¬ Rt s'.size q' k' := Decidable.em _
      go_enter Try.func9, Try.ntmps9
      go_wp2_with fail
      rw [HW.out]
      refine (CS1.out _).mono ?_
      rintro e w1 ⟨rfl, hf⟩
      have HT := Lib.hid (HT.out.keep hf (fun _ _ h => h))
      have A1 := A1.keep hf (fun h => h)
      have A2 := A2.keep hf (fun h => h)
      obtain ⟨a0, a1, a2⟩ := A1.key
      obtain ⟨b0, b1, b2⟩ := A2.key
      have HF := Lib.hid (HF.out.trans hf)
      clear hf
      go_wp2_with fail
      refine (CS2.out _).mono ?_
      rintro e w1 ⟨rfl, hf⟩
      have HT := Lib.hid (HT.out.keep hf (fun _ _ h => h))
      have A1 := A1.keep hf (fun h => h)
      have A2 := A2.keep hf (fun h => h)
      obtain ⟨a0, a1, a2⟩ := A1.key
      obtain ⟨b0, b1, b2⟩ := A2.key
      have HF := Lib.hid (HF.out.trans hf)
      clear hf
      go_wp2_with fail
      refine (CX.out _).mono ?_
      rintro e w1 ⟨rfl, hf⟩
      have HT := Lib.hid (HT.out.keep hf (fun _ _ h => h))
      have A1 := A1.keep hf (fun h => h)
      have A2 := A2.keep hf (fun h => h)
      obtain ⟨a0, a1, a2⟩ := A1.key
      obtain ⟨b0, b1, b2⟩ := A2.key
      have HF := Lib.hid (HF.out.trans hf)
      clear hf
      go_wp2_with fail
      rcases hY with r2 | r2
      · obtain ⟨Y, hY⟩ : ∃ Y, encK s'.data.toList q' k' = Y := ⟨_, rfl⟩
        have CY := fun w => bytes_yes s' q' k' w r2
        rw [hY] at CY
        clear r2 hY
        refine (CY _).mono ?_
        rintro e w1 ⟨y, cy, rfl, hrow, hf⟩
        clear hrow
        have HT := Lib.hid (HT.out.keep hf (fun _ _ h => h))
        have A1 := A1.keep hf (fun h => h)
        have A2 := A2.keep hf (fun h => h)
        obtain ⟨a0, a1, a2⟩ := A1.key
        obtain ⟨b0, b1, b2⟩ := A2.key
        have HF := Lib.hid (HF.out.trans hf)
        clear hf
        go_wp2_with fail
        refine (CA.out _).mono ?_
        rintro e w1 ⟨rfl, hf⟩
        have HT := Lib.hid (HT.out.keep hf (fun _ _ h => h))
        have A1 := A1.keep hf (fun h => h)
        have A2 := A2.keep hf (fun h => h)
        obtain ⟨a0, a1, a2⟩ := A1.key
        obtain ⟨b0, b1, b2⟩ := A2.key
        have HF := Lib.hid (HF.out.trans hf)
        clear hf
        go_wp2_with fail
        go_ret
        exact ⟨rfl, HF.out⟩
      · have CY := fun w => bytes_no s' q' k' w r2
        clear r2
        refine (CY _).mono ?_
        rintro e w1 ⟨rfl, hf⟩
        have HT := Lib.hid (HT.out.keep hf (fun _ _ h => h))
        have A1 := A1.keep hf (fun h => h)
        have A2 := A2.keep hf (fun h => h)
        obtain ⟨a0, a1, a2⟩ := A1.key
        obtain ⟨b0, b1, b2⟩ := A2.key
        have HF := Lib.hid (HF.out.trans hf)
        clear hf
        go_wp2_with fail
        refine (CA.out _).mono ?_
        rintro e w1 ⟨rfl, hf⟩
        have HT := Lib.hid (HT.out.keep hf (fun _ _ h => h))
        have A1 := A1.keep hf (fun h => h)
        have A2 := A2.keep hf (fun h => h)
        obtain ⟨a0, a1, a2⟩ := A1.key
        obtain ⟨b0, b1, b2⟩ := A2.key
        have HF := Lib.hid (HF.out.trans hf)
        clear hf
        go_wp2_with fail
        go_ret
        exact ⟨rfl, HF.out⟩
    · as_aux_lemma =>
      obtain ⟨r1, r2⟩ := hr
      obtain ⟨X, hX⟩ : ∃ X, encK s.data.toList q k = X := ⟨_, rfl⟩
      have CX := fun w => bytes_yes s q k w r1
      rw [hX] at CX
      have CX := Lib.hid CX
      have CY := Lib.hid (fun w => bytes_no s' q' k' w r2)
      clear hX r1 r2
      go_enter Try.func9, Try.ntmps9
      go_wp2_with fail
      rw [HW.out]
      refine (CS1.out _).mono ?_
      rintro e w1 ⟨rfl, hf⟩
      have HT := Lib.hid (HT.out.keep hf (fun _ _ h => h))
      have A1 := A1.keep hf (fun h => h)
      have A2 := A2.keep hf (fun h => h)
      obtain ⟨a0, a1, a2⟩ := A1.key
      obtain ⟨b0, b1, b2⟩ := A2.key
      have HF := Lib.hid (HF.out.trans hf)
      clear hf
      go_wp2_with fail
      refine (CS2.out _).mono ?_
      rintro e w1 ⟨rfl, hf⟩
      have HT := Lib.hid (HT.out.keep hf (fun _ _ h => h))
      have A1 := A1.keep hf (fun h => h)
      have A2 := A2.keep hf (fun h => h)
      obtain ⟨a0, a1, a2⟩ := A1.key
      obtain ⟨b0, b1, b2⟩ := A2.key
      have HF := Lib.hid (HF.out.trans hf)
      clear hf
      go_wp2_with fail
      refine (CX.out _).mono ?_
      rintro e w1 ⟨x, cx, rfl, hrow, hf⟩
      clear hrow
      have HT := Lib.hid (HT.out.keep hf (fun _ _ h => h))
      have A1 := A1.keep hf (fun h => h)
      have A2 := A2.keep hf (fun h => h)
      obtain ⟨a0, a1, a2⟩ := A1.key
      obtain ⟨b0, b1, b2⟩ := A2.key
      have HF := Lib.hid (HF.out.trans hf)
      clear hf
      go_wp2_with fail
      refine (CY.out _).mono ?_
      rintro e w1 ⟨rfl, hf⟩
      have HT := Lib.hid (HT.out.keep hf (fun _ _ h => h))
      have A1 := A1.keep hf (fun h => h)
      have A2 := A2.keep hf (fun h => h)
      obtain ⟨a0, a1, a2⟩ := A1.key
      obtain ⟨b0, b1, b2⟩ := A2.key
      have HF := Lib.hid (HF.out.trans hf)
      clear hf
      go_wp2_with fail
      refine (CA.out _).mono ?_
      rintro e w1 ⟨rfl, hf⟩
      have HT := Lib.hid (HT.out.keep hf (fun _ _ h => h))
      have A1 := A1.keep hf (fun h => h)
      have A2 := A2.keep hf (fun h => h)
      obtain ⟨a0, a1, a2⟩ := A1.key
      obtain ⟨b0, b1, b2⟩ := A2.key
      have HF := Lib.hid (HF.out.trans hf)
      clear hf
      go_wp2_with fail
      go_ret
      exact ⟨rfl, HF.out⟩
  · have g' : ¬ (s.size : Int) ≤ 300 ∨ ((s.size : Int) ≤ 300 ∧ ¬ (s'.size : Int) ≤ 300) ∨ ((s.size : Int) ≤ 300 ∧ (s'.size : Int) ≤ 300 ∧ ¬ lt.length ≤ 100) := by omega
    clear g
    rcases g' with g1 | ⟨g1, g2⟩ | ⟨g1, g2, g3⟩
    · rw [decide_eq_false g1] at CS1
      have CS1 := Lib.hid CS1
      clear CS2
      go_enter Try.func9, Try.ntmps9
      go_wp2_with fail
      rw [HW.out]
      refine (CS1.out _).mono ?_
      rintro e w1 ⟨rfl, hf⟩
      have HT := Lib.hid (HT.out.keep hf (fun _ _ h => h))
      have A1 := A1.keep hf (fun h => h)
      have A2 := A2.keep hf (fun h => h)
      obtain ⟨a0, a1, a2⟩ := A1.key
      obtain ⟨b0, b1, b2⟩ := A2.key
      have HF := Lib.hid (HF.out.trans hf)
      clear hf
      go_wp2_with fail
      refine (CA.out _).mono ?_
      rintro e w1 ⟨rfl, hf⟩
      have HT := Lib.hid (HT.out.keep hf (fun _ _ h => h))
      have A1 := A1.keep hf (fun h => h)
      have A2 := A2.keep hf (fun h => h)
      obtain ⟨a0, a1, a2⟩ := A1.key
      obtain ⟨b0, b1, b2⟩ := A2.key
      have HF := Lib.hid (HF.out.trans hf)
      clear hf
      go_wp2_with fail
      go_ret
      exact ⟨rfl, HF.out⟩
    · rw [decide_eq_true g1] at CS1
      rw [decide_eq_false g2] at CS2
      have CS1 := Lib.hid CS1
      have CS2 := Lib.hid CS2
      go_enter Try.func9, Try.ntmps9
      go_wp2_with fail
      rw [HW.out]
      refine (CS1.out _).mono ?_
      rintro e w1 ⟨rfl, hf⟩
      have HT := Lib.hid (HT.out.keep hf (fun _ _ h => h))
      have A1 := A1.keep hf (fun h => h)
      have A2 := A2.keep hf (fun h => h)
      obtain ⟨a0, a1, a2⟩ := A1.key
      obtain ⟨b0, b1, b2⟩ := A2.key
      have HF := Lib.hid (HF.out.trans hf)
      clear hf
      go_wp2_with fail
      refine (CS2.out _).mono ?_
      rintro e w1 ⟨rfl, hf⟩
      have HT := Lib.hid (HT.out.keep hf (fun _ _ h => h))
      have A1 := A1.keep hf (fun h => h)
      have A2 := A2.keep hf (fun h => h)
      obtain ⟨a0, a1, a2⟩ := A1.key
      obtain ⟨b0, b1, b2⟩ := A2.key
      have HF := Lib.hid (HF.out.trans hf)
      clear hf
      go_wp2_with fail
      refine (CA.out _).mono ?_
      rintro e w1 ⟨rfl, hf⟩
      have HT := Lib.hid (HT.out.keep hf (fun _ _ h => h))
      have A1 := A1.keep hf (fun h => h)
      have A2 := A2.keep hf (fun h => h)
      obtain ⟨a0, a1, a2⟩ := A1.key
      obtain ⟨b0, b1, b2⟩ := A2.key
      have HF := Lib.hid (HF.out.trans hf)
      clear hf
      go_wp2_with fail
      go_ret
      exact ⟨rfl, HF.out⟩
    · rw [decide_eq_true g1] at CS1
      rw [decide_eq_true g2] at CS2
      have CS1 := Lib.hid CS1
      have CS2 := Lib.hid CS2
      go_enter Try.func9, Try.ntmps9
      go_wp2_with fail
      rw [HW.out]
      refine (CS1.out _).mono ?_
      rintro e w1 ⟨rfl, hf⟩
      have HT := Lib.hid (HT.out.keep hf (fun _ _ h => h))
      have A1 := A1.keep hf (fun h => h)
      have A2 := A2.keep hf (fun h => h)
      obtain ⟨a0, a1, a2⟩ := A1.key
      obtain ⟨b0, b1, b2⟩ := A2.key
      have HF := Lib.hid (HF.out.trans hf)
      clear hf
      go_wp2_with fail
      refine (CS2.out _).mono ?_
      rintro e w1 ⟨rfl, hf⟩
      have HT := Lib.hid (HT.out.keep hf (fun _ _ h => h))
      have A1 := A1.keep hf (fun h => h)
      have A2 := A2.keep hf (fun h => h)
      obtain ⟨a0, a1, a2⟩ := A1.key
      obtain ⟨b0, b1, b2⟩ := A2.key
      have HF := Lib.hid (HF.out.trans hf)
      clear hf
      go_wp2_with fail
      refine (CA.out _).mono ?_
      rintro e w1 ⟨rfl, hf⟩
      have HT := Lib.hid (HT.out.keep hf (fun _ _ h => h))
      have A1 := A1.keep hf (fun h => h)
      have A2 := A2.keep hf (fun h => h)
      obtain ⟨a0, a1, a2⟩ := A1.key
      obtain ⟨b0, b1, b2⟩ := A2.key
      have HF := Lib.hid (HF.out.trans hf)
      clear hf
      go_wp2_with fail
      go_ret
      exact ⟨rfl, HF.out⟩
theorem ikeyApart_walk (w : World) (s : ByteArray) (q k : Int) (_ : s.size ≤ maxLen) (_ : (Lit.int .i64 q).wf = true) (_ : (Lit.int .i64 k).wf = true) (s' : ByteArray) (q' k' : Int) (_ : s'.size ≤ maxLen) (_ : (Lit.int .i64 q').wf = true) (_ : (Lit.int .i64 k').wf = true)
    (a : Option Addr) (ca : Nat) (la : List UInt8) (h1 : la.length ≤ ca) (h2 : ca ≤ maxLen) (ra : Rd w a la) :
    Calls Try.prog 9 #[.agg #[.string s, .int .i64 q, .int .i64 k], .agg #[.string s', .int .i64 q', .int .i64 k'], .slice a la.length ca] w fun e w' => e = .returned (.bool true) ∧ Below w.heap.size w w' :=
  (apart_c s s' q k q' k' a ca la (Nat.le_trans h1 h2) w ra).mono fun _ _ h => h.post
end Go.Proofs.Ytdpfgkjjjjkfkaa
