/-
  Texts of layer 14 and of what it stands on, one behind the other.
-/
import Derived.Test.YtihahckjcedceaaDoorMg43
import Derived.Test.YtihahckjcedceaaDoorMg41

/- The walks of the statements VlogPointers, VlogParses. -/
namespace Go.Proofs.YtihahckjcedceaaDoor
set_option linter.unusedVariables false
set_option linter.unusedSimpArgs false
open Go.RowKit

theorem PlainRet.below {v : Value} {w : World} {e : Ending} {w' : World} (h : PlainRet v w e w') : e = .returned v ∧ Below w.heap.size w w' := ⟨h.1, h.2.below (Nat.le_refl _) (fun _ h => h.elim)⟩
theorem ptrB_len {z t n : Int} (h : RtV z t n) : (ptrB z t n).length ≤ 30 := by
  obtain ⟨h1, h2, h3, h4, h5, h6⟩ := h
  have e1 := enc_len9 (show z.toNat < 9223372036854775808 by omega)
  have e2 := enc_len9 (show t.toNat < 9223372036854775808 by omega)
  have e3 := enc_len9 (show n.toNat < 9223372036854775808 by omega)
  unfold ptrB
  simp only [List.length_append]
  omega
set_option maxRecDepth 20000 in
set_option maxHeartbeats 3200000 in
theorem vlogPointers_walk (W : World) (ht : Tab W) (z t n : Int) :
    Calls Tryd.prog 3 #[ptV z t n] W fun e W' => e = .returned (.bool true) ∧ Below W.heap.size W W' := by
  refine Calls.mono (R := PlainRet (.bool true) W) ?_ fun e w' h => h.below
  obtain ⟨W0, hW0, hA0, hf0⟩ := box_pt W z t n
  have c0 := hA0.cell 0
  have c1 := hA0.cell 1
  have c2 := hA0.cell 2
  simp at c0 c1 c2
  have HF0 := Lib.hid hf0
  have CA := Lib.hid (fun (w : World) (f : Fr No W w) => awake14_c w (ht.keep f (fun h => h)))
  have CR := Lib.hid (fun w => refRight14_c z t n w)
  have CC := Lib.hid (fun w => vcheck_c z t n w)
  have HS := Lib.hid (And.intro (At.cell hA0 0) (And.intro (At.cell hA0 1) (At.cell hA0 2)))
  clear hA0 ht
  by_cases hr : RtV z t n
  · rw [decide_eq_true hr] at CR
    rw [if_pos hr] at CC
    have CT := Lib.hid (fun w => ptext_yes z t n w hr)
    have CU := Lib.hid (fun w => refPtext_c z t n w hr)
    have hpl := ptrB_len hr
    have CP := Lib.hid (fun w => vparse_c (strOf (ptrB z t n)) (by rw [size_strOf]; omega) w)
    rw [bs_strOf, vpR_enc hr] at CP
    clear hr hpl
    generalize strOf (ptrB z t n) = S at *
    unfold ptV at CT CC ⊢
    go_enter Tryd.func3, Tryd.ntmps3
    go_wp2_with fail
    try rw [hW0]
    try go_wp2_with fail
    refine (CT.out _).mono ?_
    rintro e w1 ⟨rfl, hf⟩
    have HF1 := Lib.hid (HF0.out.trans hf)
    have c0 := hf.cell c0 (fun h => h)
    have c1 := hf.cell c1 (fun h => h)
    have c2 := hf.cell c2 (fun h => h)
    clear hf CT
    go_wp2_with fail
    refine (CR.out _).mono ?_
    rintro e w' ⟨rfl, rfl⟩
    go_wp2_with fail
    refine (CP.out _).mono ?_
    rintro e w2 ⟨hf, rfl⟩
    have hf := hf.alloc (.cells #[.int .i64 z, .int .i64 t, .int .i64 n] 23)
    obtain ⟨w3, hw3⟩ : ∃ W, w2.alloc (.cells #[.int .i64 z, .int .i64 t, .int .i64 n] 23) = W := ⟨_, rfl⟩
    have A3 : At w3 w2.heap.size 23 #[.int .i64 z, .int .i64 t, .int .i64 n] := by rw [← hw3]; exact At.new _ _ _
    rw [hw3] at hf
    have c0 := hf.cell c0 (fun h => h)
    have c1 := hf.cell c1 (fun h => h)
    have c2 := hf.cell c2 (fun h => h)
    have b0 := A3.cell 0
    have b1 := A3.cell 1
    have b2 := A3.cell 2
    simp at b0 b1 b2
    have HF3 := Lib.hid (HF1.out.trans hf)
    clear hf CP A3
    unfold ptV
    go_wp2_with fail
    try rw [hw3]
    try go_wp2_with fail
    refine (CC.out _).mono ?_
    rintro e w4 ⟨rfl, hf⟩
    have c0 := hf.cell c0 (fun h => h)
    have c1 := hf.cell c1 (fun h => h)
    have c2 := hf.cell c2 (fun h => h)
    have b0 := hf.cell b0 (fun h => h)
    have b1 := hf.cell b1 (fun h => h)
    have b2 := hf.cell b2 (fun h => h)
    have HF4 := Lib.hid (HF3.out.trans hf)
    clear hf
    go_wp2_with fail
    refine (CU.out _).mono ?_
    rintro e w5 ⟨rfl, hf⟩
    have c0 := hf.cell c0 (fun h => h)
    have c1 := hf.cell c1 (fun h => h)
    have c2 := hf.cell c2 (fun h => h)
    have b0 := hf.cell b0 (fun h => h)
    have b1 := hf.cell b1 (fun h => h)
    have b2 := hf.cell b2 (fun h => h)
    have HF5 := Lib.hid (HF4.out.trans hf)
    clear hf
    go_wp2_with fail
    refine (CA.out _ HF5.out).mono ?_
    rintro e w6 ⟨rfl, hf⟩
    have HF6 := Lib.hid (HF5.out.trans hf)
    clear hf
    go_wp2_with fail
    go_ret
    exact ⟨rfl, HF6.out⟩
  · rw [decide_eq_false hr] at CR
    rw [if_neg hr] at CC
    have CT := Lib.hid (fun w => ptext_no z t n w hr)
    clear hr
    unfold ptV at CT CC ⊢
    go_enter Tryd.func3, Tryd.ntmps3
    go_wp2_with fail
    try rw [hW0]
    try go_wp2_with fail
    refine (CT.out _).mono ?_
    rintro e w1 ⟨rfl, hf⟩
    have HF1 := Lib.hid (HF0.out.trans hf)
    have c0 := hf.cell c0 (fun h => h)
    have c1 := hf.cell c1 (fun h => h)
    have c2 := hf.cell c2 (fun h => h)
    clear hf CT
    go_wp2_with fail
    refine (CR.out _).mono ?_
    rintro e w' ⟨rfl, rfl⟩
    go_wp2_with fail
    refine (CC.out _).mono ?_
    rintro e w2 ⟨rfl, hf⟩
    have HF2 := Lib.hid (HF1.out.trans hf)
    clear hf
    go_wp2_with fail
    refine (CA.out _ HF2.out).mono ?_
    rintro e w3 ⟨rfl, hf⟩
    have HF3 := Lib.hid (HF2.out.trans hf)
    clear hf
    go_wp2_with fail
    go_ret
    exact ⟨rfl, HF3.out⟩
set_option maxRecDepth 20000 in
set_option maxHeartbeats 3200000 in
theorem vlogParses_walk (W : World) (ht : Tab W) (s : ByteArray) (hs : s.size ≤ maxLen) :
    Calls Tryd.prog 4 #[.string s] W fun e W' => e = .returned (.bool true) ∧ Below W.heap.size W W' := by
  refine Calls.mono (R := PlainRet (.bool true) W) ?_ fun e w' h => h.below
  have CA := Lib.hid (fun (w : World) (f : Fr No W w) => awake14_c w (ht.keep f (fun h => h)))
  unfold maxLen at hs
  clear ht
  by_cases h5 : 500 < (s.size : Int)
  · have d5 : decide (500 < (s.size : Int)) = true := decide_eq_true h5
    clear h5
    go_enter Tryd.func4, Tryd.ntmps4
    go_wp2_with fail
    refine (CA.out _ (Fr.refl _ _)).mono ?_
    rintro e w3 ⟨rfl, hf⟩
    have HF3 := Lib.hid hf
    clear hf
    go_wp2_with fail
    go_ret
    exact ⟨rfl, HF3.out⟩
  · have CP := Lib.hid (vparse_c s (by omega) W)
    have hy := vpR_yes (l := bs s)
    have hn := vpR_no (l := bs s)
    have hv := vpR_two (bs s)
    obtain ⟨⟨z, t, n, r⟩, hR⟩ : ∃ r, vpR (bs s) = r := ⟨_, rfl⟩
    rw [hR] at CP hy hn hv
    simp only at hy hn hv
    have d5 : decide (500 < (s.size : Int)) = false := decide_eq_false h5
    clear hR h5
    rcases hv with rfl | rfl
    · obtain ⟨hr, hb⟩ := hy rfl
      have CR := Lib.hid (fun w => refRight14_c z t n w)
      rw [decide_eq_true hr] at CR
      have CU := Lib.hid (fun w => refPtext_c z t n w hr)
      rw [hb, strOf_bs] at CU
      clear hr hb hy hn
      go_enter Tryd.func4, Tryd.ntmps4
      go_wp2_with fail
      refine (show Calls _ _ _ _ _ from CP.out).mono ?_
      rintro e w2 ⟨hf, rfl⟩
      have hf := hf.alloc (.cells #[.int .i64 z, .int .i64 t, .int .i64 n] 23)
      obtain ⟨w3, hw3⟩ : ∃ W, w2.alloc (.cells #[.int .i64 z, .int .i64 t, .int .i64 n] 23) = W := ⟨_, rfl⟩
      have A3 : At w3 w2.heap.size 23 #[.int .i64 z, .int .i64 t, .int .i64 n] := by rw [← hw3]; exact At.new _ _ _
      rw [hw3] at hf
      have b0 := A3.cell 0
      have b1 := A3.cell 1
      have b2 := A3.cell 2
      simp at b0 b1 b2
      have HF3 := Lib.hid hf
      clear hf CP A3
      unfold ptV
      go_wp2_with fail
      try rw [hw3]
      try go_wp2_with fail
      refine (CR.out _).mono ?_
      rintro e w' ⟨rfl, rfl⟩
      go_wp2_with fail
      refine (CU.out _).mono ?_
      rintro e w5 ⟨rfl, hf⟩
      have HF5 := Lib.hid (HF3.out.trans hf)
      clear hf
      go_wp2_with fail
      refine (CA.out _ HF5.out).mono ?_
      rintro e w6 ⟨rfl, hf⟩
      have HF6 := Lib.hid (HF5.out.trans hf)
      clear hf
      go_wp2_with fail
      go_ret
      exact ⟨rfl, HF6.out⟩
    · have hz := hn (by decide)
      simp only [Prod.mk.injEq, and_true] at hz
      obtain ⟨rfl, rfl, rfl⟩ := hz
      clear hy hn
      go_enter Tryd.func4, Tryd.ntmps4
      go_wp2_with fail
      refine (show Calls _ _ _ _ _ from CP.out).mono ?_
      rintro e w2 ⟨hf, rfl⟩
      have hf := hf.alloc (.cells #[.int .i64 0, .int .i64 0, .int .i64 0] 23)
      have HF3 := Lib.hid hf
      clear hf CP
      unfold ptV
      go_wp2_with fail
      refine (CA.out _ HF3.out).mono ?_
      rintro e w6 ⟨rfl, hf⟩
      have HF6 := Lib.hid (HF3.out.trans hf)
      clear hf
      go_wp2_with fail
      go_ret
      exact ⟨rfl, HF6.out⟩
end Go.Proofs.YtihahckjcedceaaDoor
