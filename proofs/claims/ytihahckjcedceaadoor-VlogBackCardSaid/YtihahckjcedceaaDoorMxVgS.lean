/-
  The walk of the statement VlogSizes.
-/
import Derived.Test.YtihahckjcedceaaDoorMg43
import Derived.Test.YtihahckjcedceaaDoorMg44
namespace Go.Proofs.YtihahckjcedceaaDoor
set_option linter.unusedVariables false
set_option linter.unusedSimpArgs false
open Go.RowKit

theorem nums_one (w : World) (z : Int) : Nums (w.alloc (.cells #[.int .i64 z] 3)) (some ⟨w.heap.size, 0, none⟩) [z] := fun _ => ⟨w.heap.size, 0, rfl, fun i hi => by
  obtain rfl : i = 0 := by simp at hi; omega
  exact (At.new w 3 #[.int .i64 z]).cell 0⟩
theorem sizes_fact {R : List UInt8} {S : Nat} (hS : sizeL R.length = S) {m : Dev} (hm : newM 4 400 4 = m) :
    (400 < S ∧ putT m [0] R = (0, 0, 0, 201) ∧ (appDv m [0] R) = m ∧ ptrM (appDv m [0] R) 0 = 0) ∨ (S ≤ 400 ∧ putT m [0] R = (0, 0, (R.length : Int), 0) ∧ ptrM (appDv m [0] R) 0 = (S : Int) ∧ WF (appDv m [0] R)) := by
  subst hm
  have hD : Dv4 (newM 4 400 4) (fun _ => []) 4 := Dv4.new_.more (show (0 : Int) ≤ 4 by decide)
  obtain ⟨_, ⟨h1, h2, h3, h4⟩ | ⟨h1, h2, h3, _⟩⟩ := hD.put (zs := [0]) (z := 0) (by decide) rfl (by decide) (by decide) (by decide) R
  · rw [hS] at h2 h4
    simp only [List.length_nil, Nat.zero_add] at h4
    have h201 := h2 h4
    refine .inl ⟨h4, ?_, h3, ?_⟩
    · rw [putT_err h1, h201]
    · rw [h3, hD.ptr (z := 0) (by decide) (by decide)]
      rfl
  · rw [hS] at h2
    simp only [List.length_nil, Nat.zero_add] at h2
    refine .inr ⟨h2, ?_, ?_, h3.live.wf⟩
    · rw [putT_ok h1]
      rfl
    · rw [h3.ptr (z := 0) (by decide) (by decide), updB_at, List.nil_append, frameL_length, hS]
set_option maxRecDepth 20000 in
set_option maxHeartbeats 6400000 in
theorem vlogSizes_walk (W : World) (ht : Tab W) (x : Ky) (hxm : x.u.size ≤ maxLen) (s : ByteArray) (hs : s.size ≤ maxLen) :
    Calls Tryd.prog 8 #[kyV x, .string s] W fun e W' => e = .returned (.bool true) ∧ Below W.heap.size W W' := by
  refine Calls.mono (R := PlainRet (.bool true) W) ?_ fun e w' h => h.below
  unfold maxLen at hs hxm
  obtain ⟨W0, hW0⟩ : ∃ w, W.alloc (.cells #[.string x.u, .int .i64 x.q, .int .i64 x.k] 43) = w := ⟨_, rfl⟩
  have K0 : At W0 W.heap.size 43 #[.string x.u, .int .i64 x.q, .int .i64 x.k] := by rw [← hW0]; exact At.new _ _ _
  have f0 : Fr No W W0 := by rw [← hW0]; exact (Fr.refl No W).alloc _
  have HT := Lib.hid (ht.keep f0 (fun h => h))
  have HF0 := Lib.hid f0
  have HK := Lib.hid K0
  have CD := Lib.hid (device14_c W0)
  have CA := Lib.hid (fun (w : World) (f : Fr No W0 w) => awake14_c w ((ht.keep f0 (fun h => h)).keep f (fun h => h)))
  have CREF := Lib.hid (fun w => ref14_c x w)
  have CRT := Lib.hid (fun w => right14_c x w)
  have HPN : ∀ (b : Nat) (w : World), (binOp .eql 36 (.pointer (some ⟨b, 0, none⟩)) (.pointer none)).run Tryd.prog w = .ok (.bool false) w := fun _ _ => rfl
  have HPM : ∀ (b : Nat) (w : World), (binOp .neq 36 (.pointer (some ⟨b, 0, none⟩)) (.pointer none)).run Tryd.prog w = .ok (.bool true) w := fun _ _ => rfl
  have HPL : ∀ (b : Nat) (w : World), (binOp .eql 39 (.pointer (some ⟨b, 0, none⟩)) (.pointer none)).run Tryd.prog w = .ok (.bool false) w := fun _ _ => rfl
  have HC : Hid (∀ w, Fr No W0 w → w.cell? ⟨W.heap.size, 0, none⟩ = some (.string x.u) ∧ w.cell? ⟨W.heap.size, 1, none⟩ = some (.int .i64 x.q) ∧ w.cell? ⟨W.heap.size, 2, none⟩ = some (.int .i64 x.k)) := Lib.hid fun w f => ⟨(K0.keep f (fun h => h)).cell 0, (K0.keep f (fun h => h)).cell 1, (K0.keep f (fun h => h)).cell 2⟩
  obtain ⟨c0, c1, c2⟩ := HC.out W0 (Fr.refl _ _)
  by_cases hbig : 200 < (x.u.size : Int) ∨ 5000 < (s.size : Int)
  · clear K0 f0 ht
    have hb : (decide (200 < (x.u.size : Int)) = true) ∨ (decide (200 < (x.u.size : Int)) = false ∧ decide (5000 < (s.size : Int)) = true) := by
      rcases hbig with h | h
      · exact .inl (decide_eq_true h)
      · by_cases h2 : 200 < (x.u.size : Int)
        · exact .inl (decide_eq_true h2)
        · exact .inr ⟨decide_eq_false h2, decide_eq_true h⟩
    unfold kyV
    clear hbig
    rcases hb with hb | ⟨hb, hb2⟩
    all_goals
      go_enter Tryd.func8, Tryd.ntmps8
      go_wp2_with fail
      try rw [hW0]
      refine (show Calls _ _ _ _ _ from CD.out).mono ?_
      rintro e w1 ⟨d, F, rfl, hd, hF, hf1⟩
      obtain ⟨c0, c1, c2⟩ := HC.out w1 hf1
      have HF1 := Lib.hid hf1
      clear hd hF hf1
      go_wp2_with fail
      refine (CA.out _ HF1.out).mono ?_
      rintro e w2 ⟨rfl, hf⟩
      have HF2 := Lib.hid ((HF0.out.trans HF1.out).trans hf)
      clear hf
      go_wp2_with fail
      go_ret
      exact ⟨rfl, HF2.out⟩
  · have hu : decide (200 < (x.u.size : Int)) = false := decide_eq_false fun h => hbig (.inl h)
    have hv : decide (5000 < (s.size : Int)) = false := decide_eq_false fun h => hbig (.inr h)
    have hs5 : s.size ≤ 5000 := by omega
    clear hbig K0 f0 ht
    by_cases hr : x.rt
    · have CS := Lib.hid (fun w => vsize_yes x s w hr (by omega))
      have CRC := Lib.hid (fun w => refRecord_c x s w hr (by omega))
      rw [decide_eq_true hr] at CRT
      have hrl := recB_len hr (v := s) (by omega)
      have hsl := sizeL_le (n := (recB x s).length) (by omega)
      obtain ⟨S, hS⟩ : ∃ S, sizeL (recB x s).length = S := ⟨_, rfl⟩
      have HFACT := Lib.hid (sizes_fact hS rfl)
      have CZ := Lib.hid (fun w => fsize_c (recB x s).length w (by omega))
      rw [hS] at CS CZ hsl
      have CPUT := Lib.hid (fun (w : World) (g d : Nat) (v : Value) (h : OwnL W0 No w g d v [0] (newM 4 400 4)) => h.putY (wf_new (by decide)) (by decide) (by simp) HT.out x s hr (by omega))
      have HWF0 := Lib.hid (wf_new (z := 4) (s := 400) (o := 4) (by decide))
      obtain ⟨rn, hrn⟩ : ∃ n, (recB x s).length = n := ⟨_, rfl⟩
      have HRN := Lib.hid hrn
      rw [hrn] at CZ HFACT hrl hsl
      clear hS hrn hr
      unfold kyV at CS CRC CREF CRT CPUT ⊢
      generalize recB x s = R at *
      generalize newM 4 400 4 = m at *
      generalize appDv m [0] R = M at *
      generalize putT m [0] R = P at *
      go_enter Tryd.func8, Tryd.ntmps8
      go_wp2_with fail
      try rw [hW0]
      refine (show Calls _ _ _ _ _ from CD.out).mono ?_
      rintro e w1 ⟨d, F, rfl, hd, hF, hf1⟩
      obtain ⟨c0, c1, c2⟩ := HC.out w1 hf1
      have HF1 := Lib.hid hf1
      have HD := Lib.hid hd
      have HFF := Lib.hid hF
      clear hd hF hf1 CD
      go_wp2_with fail
      refine (CS.out _).mono ?_
      rintro e w2 ⟨rfl, hf2⟩
      have HF2 := Lib.hid (HF1.out.trans hf2)
      have HD := Lib.hid (HD.out.keep hf2 (fun _ _ h => h))
      obtain ⟨c0, c1, c2⟩ := HC.out w2 HF2.out
      clear hf2 CS HF1
      go_wp2_with fail
      refine (CREF.out _).mono ?_
      rintro e w3 ⟨rfl, hf3⟩
      have HF3 := Lib.hid (HF2.out.trans hf3)
      have HD := Lib.hid (HD.out.keep hf3 (fun _ _ h => h))
      obtain ⟨c0, c1, c2⟩ := HC.out w3 HF3.out
      clear hf3 HF2
      go_wp2_with fail
      refine (CRT.out _).mono ?_
      rintro e w4 ⟨rfl, hf4⟩
      have HF4 := Lib.hid (HF3.out.trans hf4)
      have HD := Lib.hid (HD.out.keep hf4 (fun _ _ h => h))
      obtain ⟨c0, c1, c2⟩ := HC.out w4 HF4.out
      clear hf4 HF3 CRT
      have f5 := (Fr.refl No w4).alloc (.cells #[.int .i64 0] 3)
      have CN := Lib.hid (own_new (W := W0) (HD.out.keep f5 (fun _ _ h => h)) HFF.out (HF4.out.trans f5) (some ⟨w4.heap.size, 0, none⟩) 1 1 [0] rfl (by omega) (nums_one w4 0))
      clear f5 HD HFF HF4
      go_wp2_with fail
      refine (show Calls _ _ _ _ _ from CN.out).mono ?_
      rintro e w6 ⟨g, v, rfl, ho⟩
      have HO := Lib.hid ho
      obtain ⟨c0, c1, c2⟩ := HC.out w6 ho.fr
      clear ho CN
      go_wp2_with fail
      refine (CREF.out _).mono ?_
      rintro e w7 ⟨rfl, hf7⟩
      have HO := Lib.hid (HO.out.no hf7)
      obtain ⟨c0, c1, c2⟩ := HC.out w7 HO.out.fr
      clear hf7 CREF
      go_wp2_with fail
      refine (CRC.out _).mono ?_
      rintro e w8 ⟨rv, rfl, rrow, hf8⟩
      obtain ⟨ra, rc, rfl, _, _, _⟩ := rrow.form
      rw [HRN.out]
      have HO := Lib.hid (HO.out.no hf8)
      obtain ⟨c0, c1, c2⟩ := HC.out w8 HO.out.fr
      clear hf8 CRC rrow
      go_wp2_with fail
      refine (CZ.out _).mono ?_
      rintro e w' ⟨rfl, rfl⟩
      have CP := Lib.hid (CPUT.out w8 g d v HO.out)
      clear CPUT
      go_wp2_with fail
      refine (show Calls _ _ _ _ _ from CP.out).mono ?_
      rintro e w9 ⟨rfl, ho, _⟩
      clear CP HO
      rcases HFACT.out with ⟨h1, h2, h3, h4⟩ | ⟨h1, h2, h3, h4⟩
      · rw [h2]
        have f10 := (Fr.refl No w9).alloc (.cells #[.int .i64 0, .int .i64 0, .int .i64 0] 23)
        have CPT := (ho.no f10).pointer (h3 ▸ HWF0.out) 0
        rw [h4] at CPT
        have CPT := Lib.hid CPT
        have HFA := Lib.hid (ho.no f10).fr
        have d1 : decide (400 < (S : Int)) = true := decide_eq_true (by omega)
        clear ho f10 h1 h2 h3 h4 HFACT
        unfold ptV
        go_wp2_with fail
        refine (show Calls _ _ _ _ _ from CPT.out).mono ?_
        rintro e w' ⟨rfl, rfl⟩
        go_wp2_with fail
        refine (CA.out _ HFA.out).mono ?_
        rintro e w11 ⟨rfl, hf⟩
        have HFB := Lib.hid ((HF0.out.trans HFA.out).trans hf)
        clear hf
        go_wp2_with fail
        go_ret
        exact ⟨rfl, HFB.out⟩
      · rw [h2]
        obtain ⟨w10, hw10⟩ : ∃ w, w9.alloc (.cells #[.int .i64 0, .int .i64 0, .int .i64 (rn : Int)] 23) = w := ⟨_, rfl⟩
        have f10 : Fr No w9 w10 := by rw [← hw10]; exact (Fr.refl No w9).alloc _
        have P10 : At w10 w9.heap.size 23 #[.int .i64 0, .int .i64 0, .int .i64 (rn : Int)] := by rw [← hw10]; exact At.new _ _ _
        have p0 := P10.cell 0
        have p1 := P10.cell 1
        have p2 := P10.cell 2
        simp at p0 p1 p2
        have CPT := (ho.no f10).pointer h4 0
        rw [h3] at CPT
        have CPT := Lib.hid CPT
        have HFA := Lib.hid (ho.no f10).fr
        have d1 : decide (400 < (S : Int)) = false := decide_eq_false (by omega)
        clear ho f10 h1 h2 h3 h4 HFACT P10
        unfold ptV
        go_wp2_with fail
        try rw [hw10]
        try go_wp2_with fail
        refine (show Calls _ _ _ _ _ from CPT.out).mono ?_
        rintro e w' ⟨rfl, rfl⟩
        go_wp2_with fail
        refine (CZ.out _).mono ?_
        rintro e w' ⟨rfl, rfl⟩
        go_wp2_with fail
        refine (CA.out _ HFA.out).mono ?_
        rintro e w11 ⟨rfl, hf⟩
        have HFB := Lib.hid ((HF0.out.trans HFA.out).trans hf)
        clear hf
        go_wp2_with fail
        go_ret
        exact ⟨rfl, HFB.out⟩
    · have CS := Lib.hid (fun w => vsize_no x s w hr)
      rw [decide_eq_false hr] at CRT
      clear hr
      unfold kyV at CS CREF CRT ⊢
      go_enter Tryd.func8, Tryd.ntmps8
      go_wp2_with fail
      try rw [hW0]
      refine (show Calls _ _ _ _ _ from CD.out).mono ?_
      rintro e w1 ⟨d, F, rfl, hd, hF, hf1⟩
      obtain ⟨c0, c1, c2⟩ := HC.out w1 hf1
      have HF1 := Lib.hid hf1
      clear hd hF hf1 CD
      go_wp2_with fail
      refine (CS.out _).mono ?_
      rintro e w2 ⟨rfl, hf2⟩
      have HF2 := Lib.hid (HF1.out.trans hf2)
      obtain ⟨c0, c1, c2⟩ := HC.out w2 HF2.out
      clear hf2 CS HF1
      go_wp2_with fail
      refine (CREF.out _).mono ?_
      rintro e w3 ⟨rfl, hf3⟩
      have HF3 := Lib.hid (HF2.out.trans hf3)
      clear hf3 HF2
      go_wp2_with fail
      refine (CRT.out _).mono ?_
      rintro e w4 ⟨rfl, hf4⟩
      have HF4 := Lib.hid (HF3.out.trans hf4)
      clear hf4 HF3 CRT
      go_wp2_with fail
      refine (CA.out _ HF4.out).mono ?_
      rintro e w11 ⟨rfl, hf⟩
      have HFB := Lib.hid ((HF0.out.trans HF4.out).trans hf)
      clear hf
      go_wp2_with fail
      go_ret
      exact ⟨rfl, HFB.out⟩
end Go.Proofs.YtihahckjcedceaaDoor
