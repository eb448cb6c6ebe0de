/-
  Texts of layer 14 and of what it stands on, one behind the other.
-/
import Derived.Test.YtihahckjcedceaaDoorMg33
import Derived.Test.YtihahckjcedceaaDoorMg29

/- Layer 14: Parse of a pointer. -/
namespace Go.Proofs.YtihahckjcedceaaDoor
set_option linter.unusedVariables false
set_option linter.unusedSimpArgs false
open Go.RowKit

/-- What Parse tells. -/
def vpR (l : List UInt8) : Int × Int × Int × Int :=
  if doneI (numS (numS (numS (l, false)).2).2).2 = 0 ∧ RtV ((numS (l, false)).1 : Int) ((numS (numS (l, false)).2).1 : Int) ((numS (numS (numS (l, false)).2).2).1 : Int)
    then (((numS (l, false)).1 : Int), ((numS (numS (l, false)).2).1 : Int), ((numS (numS (numS (l, false)).2).2).1 : Int), 0) else (0, 0, 0, 140)
theorem vpR_no {l : List UInt8} (h : (vpR l).2.2.2 ≠ 0) : vpR l = (0, 0, 0, 140) := by
  unfold vpR at h ⊢
  split
  · rename_i h1
    rw [if_pos h1] at h
    exact absurd rfl h
  · rfl
theorem vpR_two (l : List UInt8) : (vpR l).2.2.2 = 0 ∨ (vpR l).2.2.2 = 140 := by
  unfold vpR
  split
  · exact .inl rfl
  · exact .inr rfl
theorem vpR_yes {l : List UInt8} (h : (vpR l).2.2.2 = 0) : RtV (vpR l).1 (vpR l).2.1 (vpR l).2.2.1 ∧ ptrB (vpR l).1 (vpR l).2.1 (vpR l).2.2.1 = l := by
  unfold vpR at h ⊢
  split
  · rename_i h1
    obtain ⟨h1, h2⟩ := h1
    refine ⟨h2, ?_⟩
    have hd := doneI_zero h1
    rcases e1 : numS (l, false) with ⟨a, l1, b1⟩
    rw [e1] at hd
    rcases e2 : numS (l1, b1) with ⟨b, l2, b2⟩
    simp only at hd
    rw [e2] at hd
    rcases e3 : numS (l2, b2) with ⟨c, l3, b3⟩
    simp only at hd
    rw [e3] at hd
    simp only [Prod.mk.injEq] at hd
    obtain ⟨rfl, rfl⟩ := hd
    have hb2 : b2 = false := numS_keeps l2 b2 (by rw [e3])
    subst hb2
    have hb1 : b1 = false := numS_keeps l1 b1 (by rw [e2])
    subst hb1
    obtain ⟨f1, _⟩ := numS_back e1
    obtain ⟨f2, _⟩ := numS_back e2
    obtain ⟨f3, _⟩ := numS_back e3
    simp only [e2, e3]
    rw [f1, f2, f3]
    unfold ptrB
    simp
  · rename_i h1
    rw [if_neg h1] at h
    exact absurd h (by decide)
theorem vpR_enc {z t n : Int} (h : RtV z t n) : vpR (ptrB z t n) = (z, t, n, 0) := by
  obtain ⟨h1, h2, h3, h4, h5, h6⟩ := id h
  obtain ⟨kz, rfl⟩ : ∃ k : Nat, z = (k : Int) := ⟨z.toNat, by omega⟩
  obtain ⟨kt, rfl⟩ : ∃ k : Nat, t = (k : Int) := ⟨t.toNat, by omega⟩
  obtain ⟨kn, rfl⟩ : ∃ k : Nat, n = (k : Int) := ⟨n.toNat, by omega⟩
  have e1 : numS (ptrB kz kt kn, false) = (kz, (enc kt ++ enc kn, false)) := by
    unfold ptrB
    rw [List.append_assoc]
    exact numS_enc kz _ (by omega)
  have e2 : numS (enc kt ++ enc kn, false) = (kt, (enc kn, false)) := numS_enc kt _ (by omega)
  have e3 : numS (enc kn, false) = (kn, ([], false)) := by
    have := numS_enc kn [] (by omega)
    rwa [List.append_nil] at this
  unfold vpR
  simp only [e1, e2, e3]
  exact if_pos ⟨by decide, h⟩
def VParse (r : Int × Int × Int × Int) (w : World) (e : Ending) (w' : World) : Prop := Fr No w w' ∧ e = .returned (.tuple #[ptV r.1 r.2.1 r.2.2.1, .int .i64 r.2.2.2])
theorem infoPt : (Tryd.prog.info? 23).map (·.size) = some 3 := by kernel_rfl
theorem vparse_results (tmps : Array Value) (w : World) (g : Nat) (t : TypeId) (x y z e : Value) (hp : tmps.getD 2 undef = .pointer (some ⟨g, 0, none⟩)) (he : tmps.getD 3 undef = e) (hg : At w g t #[x, y, z]) :
    (results Tryd.f13 tmps).run Tryd.prog w = .ok (.tuple #[.agg #[x, y, z], e]) w := by
  have hp' : tmps[2]?.getD undef = .pointer (some ⟨g, 0, none⟩) := by simpa using hp
  have he' : tmps[3]?.getD undef = e := by simpa using he
  have hl := run_loadVar_row (P := Tryd.prog) w g t 23 #[x, y, z] (0, 0) _ hg Tryd.underlying23 rfl infoPt
  simp [results, Tryd.results13, hp', he', asAddr, hl]
/-- The stores into the result. -/
theorem pt_store {S : Nat → Prop} {w0 w : World} {g : Nat} {t : TypeId} {a b c : Value} (h : At w g t #[a, b, c]) (f : Fr S w0 w) (hg : w0.heap.size ≤ g) (x y z : Value) :
    At (((w.setCell ⟨g, 0, none⟩ x).setCell ⟨g, 1, none⟩ y).setCell ⟨g, 2, none⟩ z) g t #[x, y, z] ∧ Fr S w0 (((w.setCell ⟨g, 0, none⟩ x).setCell ⟨g, 1, none⟩ y).setCell ⟨g, 2, none⟩ z) :=
  ⟨((h.set_ 0 x).set_ 1 y).set_ 2 z, ((f.setCell (fun h => absurd h (Nat.not_lt_of_le hg)) x).setCell (fun h => absurd h (Nat.not_lt_of_le hg)) y).setCell (fun h => absurd h (Nat.not_lt_of_le hg)) z⟩
set_option maxRecDepth 20000 in
set_option maxHeartbeats 3200000 in
theorem vparse_c (s : ByteArray) (hs : s.size ≤ 1000000) (w : World) : Calls Tryd.prog 13 #[.string s] w (VParse (vpR (bs s)) w) := by
  have HV : Hid (vpR (bs s) = if doneI (numS (numS (numS (bs s, false)).2).2).2 = 0 ∧ RtV ((numS (bs s, false)).1 : Int) ((numS (numS (bs s, false)).2).1 : Int) ((numS (numS (numS (bs s, false)).2).2).1 : Int)
    then (((numS (bs s, false)).1 : Int), ((numS (numS (bs s, false)).2).1 : Int), ((numS (numS (numS (bs s, false)).2).2).1 : Int), 0) else (0, 0, 0, 140)) := Lib.hid rfl
  obtain ⟨W0, hW0⟩ : ∃ W, w.alloc (.cells #[.int .i64 0, .int .i64 0, .int .i64 0] 23) = W := ⟨_, rfl⟩
  have A0 : At W0 w.heap.size 23 #[.int .i64 0, .int .i64 0, .int .i64 0] := by rw [← hW0]; exact At.new _ _ _
  have f0 : Fr No w W0 := by rw [← hW0]; exact (Fr.refl No w).alloc _
  obtain ⟨ca, cc, W1, hcv, hc1, hc2, hcin, hcf⟩ := conv_strR W0 s (by simp [maxLen]; omega)
  have HA0 := Lib.hid A0
  have HF1 := Lib.hid (f0.trans hcf)
  have HFC := Lib.hid hcf
  have CN := Lib.hid (newRdO ca s.size cc (bs s) W1 (bs_length s) (by omega) hcin.rd)
  generalize vpR (bs s) = R at *
  clear A0 f0 hcin hcf hc1 hc2
  go_enter Tryd.func13, Tryd.ntmps13
  go_wp2_with fail
  try rw [hW0]
  try go_wp2_with fail
  refine (show Calls _ _ _ _ _ from CN.out).mono ?_
  rintro e w2 ⟨B, rfl, ho⟩
  have HO := Lib.hid ho
  clear ho CN hcv
  go_wp2_with fail
  refine (RdO.num HO.out).mono ?_
  rintro e w3 ⟨rfl, ho⟩
  have HO := Lib.hid ho
  clear ho
  go_wp2_with fail
  refine (RdO.num HO.out).mono ?_
  rintro e w4 ⟨rfl, ho⟩
  have HO := Lib.hid ho
  clear ho
  go_wp2_with fail
  refine (RdO.num HO.out).mono ?_
  rintro e w5 ⟨rfl, ho⟩
  have f6 := (Fr.refl No w5).alloc (.cells #[.int .i64 ((numS (bs s, false)).1 : Int), .int .i64 ((numS (numS (bs s, false)).2).1 : Int), .int .i64 ((numS (numS (numS (bs s, false)).2).2).1 : Int)] 23)
  have A6 : At _ w5.heap.size _ _ := At.new w5 23 #[.int .i64 ((numS (bs s, false)).1 : Int), .int .i64 ((numS (numS (bs s, false)).2).1 : Int), .int .i64 ((numS (numS (numS (bs s, false)).2).2).1 : Int)]
  have CD := Lib.hid (RdO.done (ho.no f6))
  have HO := Lib.hid (ho.no f6)
  clear ho f6
  generalize ((numS (bs s, false)).1 : Int) = x1 at *
  generalize ((numS (numS (bs s, false)).2).1 : Int) = x2 at *
  generalize ((numS (numS (numS (bs s, false)).2).2).1 : Int) = x3 at *
  generalize (numS (numS (numS (bs s, false)).2).2).2 = st at *
  generalize doneI st = D at *
  go_wp2_with fail
  generalize w5.alloc (.cells #[.int .i64 x1, .int .i64 x2, .int .i64 x3] 23) = w6 at *
  refine (show Calls _ _ _ _ _ from CD.out).mono ?_
  rintro e w7 ⟨rfl, rfl⟩
  clear CD
  by_cases hD : D = 0
  · subst hD
    have b0 := A6.cell 0
    have b1 := A6.cell 1
    have b2 := A6.cell 2
    simp at b0 b1 b2
    go_wp2_with fail
    refine (show Calls _ _ _ _ _ from vcheck_c x1 x2 x3 w6).mono ?_
    rintro e w8 ⟨rfl, hf8⟩
    have HF8 := Lib.hid ((HF1.out.trans HO.out.fr).trans hf8)
    have A8 := (HA0.out.keep (HFC.out.trans HO.out.fr) (fun h => h)).keep hf8 (fun h => h)
    have b0 := hf8.cell b0 (fun h => h)
    have b1 := hf8.cell b1 (fun h => h)
    have b2 := hf8.cell b2 (fun h => h)
    have g0 := A8.frozen 0
    have g1 := A8.frozen 1
    have g2 := A8.frozen 2
    have c0 := A8.cell 0
    have c1 := A8.cell 1
    have c2 := A8.cell 2
    simp at c0 c1 c2
    by_cases hR : RtV x1 x2 x3
    · have zs := Lib.hid (pt_store A8 HF8.out (Nat.le_refl _) (.int .i64 x1) (.int .i64 x2) (.int .i64 x3))
      have HR := Lib.hid (HV.out.trans (if_pos ⟨by trivial, hR⟩))
      rw [if_pos hR]
      clear A8 hf8 A6
      go_wp2_with fail
      refine bodyPost_ret (v := .tuple #[.agg #[.int .i64 x1, .int .i64 x2, .int .i64 x3], .int .i64 0]) (vparse_results _ _ w.heap.size 23 _ _ _ _ rfl rfl zs.out.1) rfl ?_
      exact ⟨zs.out.2, by rw [HR.out]; rfl⟩
    · have zs := Lib.hid (pt_store A8 HF8.out (Nat.le_refl _) (.int .i64 0) (.int .i64 0) (.int .i64 0))
      have HR := Lib.hid (HV.out.trans (if_neg fun h => hR h.2))
      rw [if_neg hR]
      clear A8 hf8 A6
      go_wp2_with fail
      refine bodyPost_ret (v := .tuple #[.agg #[.int .i64 0, .int .i64 0, .int .i64 0], .int .i64 140]) (vparse_results _ _ w.heap.size 23 _ _ _ _ rfl rfl zs.out.1) rfl ?_
      exact ⟨zs.out.2, by rw [HR.out]; rfl⟩
  · have e1 : (D != 0) = true := by rw [bne_iff_ne]; exact hD
    have HF8 := Lib.hid (HF1.out.trans HO.out.fr)
    have A8 := HA0.out.keep (HFC.out.trans HO.out.fr) (fun h => h)
    have g0 := A8.frozen 0
    have g1 := A8.frozen 1
    have g2 := A8.frozen 2
    have c0 := A8.cell 0
    have c1 := A8.cell 1
    have c2 := A8.cell 2
    simp at c0 c1 c2
    have zs := Lib.hid (pt_store A8 HF8.out (Nat.le_refl _) (.int .i64 0) (.int .i64 0) (.int .i64 0))
    have HR := Lib.hid (HV.out.trans (if_neg fun h => hD h.1))
    clear A8 A6 hD
    go_wp2_with fail
    refine bodyPost_ret (v := .tuple #[.agg #[.int .i64 0, .int .i64 0, .int .i64 0], .int .i64 140]) (vparse_results _ _ w.heap.size 23 _ _ _ _ rfl rfl zs.out.1) rfl ?_
    exact ⟨zs.out.2, by rw [HR.out]; rfl⟩
end Go.Proofs.YtihahckjcedceaaDoor
