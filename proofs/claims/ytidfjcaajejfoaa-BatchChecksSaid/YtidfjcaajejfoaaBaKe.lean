/-
  Layer 10: BatchKeys.
-/
import Derived.Test.YtidfjcaajejfoaaBaFi
namespace Go.Proofs.Ytidfjcaajejfoaa
set_option linter.unusedVariables false
open Go.RowKit

/-- A key that is right is told to be so. -/
theorem keyRight_c (s : ByteArray) (q k : Int) (w : World) (h1 : 1 ≤ (s.size : Int)) (h2 : (s.size : Int) ≤ 64) (h3 : 0 ≤ q) (h4 : q ≤ 1099511627776) (h5 : 1 ≤ k) (h6 : k ≤ 3) :
    Calls Try.prog 24 #[.agg #[.string s, .int .i64 q, .int .i64 k]] w (Ask (.int .i64 0) w) := by
  go_enter Try.func24, Try.ntmps24
  go_wp2_with fail
  go_ret
  exact ⟨rfl, (Fr.refl _ _).alloc _⟩
/-- A key in a block of its own. -/
theorem box_key (w : World) (s : ByteArray) (q k : Int) :
    ∃ W, w.alloc (.cells #[.string s, .int .i64 q, .int .i64 k] 49) = W ∧ Fr No w W ∧ W.cell? ⟨w.heap.size, 0, none⟩ = some (.string s) ∧ W.cell? ⟨w.heap.size, 1, none⟩ = some (.int .i64 q) ∧ W.cell? ⟨w.heap.size, 2, none⟩ = some (.int .i64 k) :=
  ⟨_, rfl, (Fr.refl _ _).alloc _, by rw [cell_of_row _ w.heap.size 0 _ _ (0, 0) (heap_alloc_new w _)]; rfl, by rw [cell_of_row _ w.heap.size 1 _ _ (0, 0) (heap_alloc_new w _)]; rfl, by rw [cell_of_row _ w.heap.size 2 _ _ (0, 0) (heap_alloc_new w _)]; rfl⟩
theorem keysC_length (l : List Op10) : ∀ q, (keysC q l).length = l.length * 3 := by
  induction l with
  | nil => intro q; rfl
  | cons x l ih =>
    intro q
    show (keyC q x ++ keysC (q + 1) l).length = _
    rw [List.length_append, ih, List.length_cons]
    simp [keyC]
    omega
theorem keysC_get (l : List Op10) : ∀ q i, i < l.length → (keysC q l)[i * 3]? = some (.string (l.getD i op0).key) ∧ (keysC q l)[i * 3 + 1]? = some (.int .i64 (q + i)) ∧ (keysC q l)[i * 3 + 2]? = some (.int .i64 (l.getD i op0).k) := by
  induction l with
  | nil => intro q i h; simp at h
  | cons p l ih =>
    intro q i h
    have e : keysC q (p :: l) = keyC q p ++ keysC (q + 1) l := rfl
    have hl : (keyC q p).length = 3 := rfl
    cases i with
    | zero => exact ⟨rfl, by rw [e]; simp [keyC], rfl⟩
    | succ i =>
      obtain ⟨h1, h2, h3⟩ := ih (q + 1) i (by simpa using h)
      rw [e]
      refine ⟨?_, ?_, ?_⟩
      · rw [List.getElem?_append_right (by omega), show (i + 1) * 3 - (keyC q p).length = i * 3 by omega]; exact h1
      · rw [List.getElem?_append_right (by omega), show (i + 1) * 3 + 1 - (keyC q p).length = i * 3 + 1 by omega, h2]
        congr 2
        omega
      · rw [List.getElem?_append_right (by omega), show (i + 1) * 3 + 2 - (keyC q p).length = i * 3 + 2 by omega]; exact h3
set_option maxRecDepth 20000 in
set_option maxHeartbeats 3200000 in
theorem bkeys_c (H : BatchOK) (w : World) (q : Int) (a : Option Addr) (ca : Nat) (l : List Op10) (wq : (Lit.int .i64 q).wf = true) (h1 : l.length ≤ ca) (h2 : ca ≤ maxLen) (hi : Ops w (fun _ => True) a l) (hwf : ∀ x ∈ l, OpWf x) :
    Calls Try.prog 5 #[.agg #[.int .i64 q, .slice a l.length ca]] w (Ask (.bool true) w) := by
  have h1' : l.length ≤ maxLen := Nat.le_trans h1 h2
  obtain ⟨W, hW, hfW, m0, m1⟩ := box_batch w q (.slice a l.length ca)
  have HS := Lib.hid (small10_c q a ca l W h1' (hi.keep hfW fun _ _ h => h))
  have HCH := Lib.hid (fun (w' : World) (f : Fr No w w') => H.check q a ca l w' _ wq h1 h2 (hi.keep f fun _ _ h => h) hwf)
  have HKE := Lib.hid (fun (w' : World) (f : Fr No w w') => H.keys q a ca l w' _ wq h1 h2 (hi.keep f fun _ _ h => h) hwf)
  have HLA := Lib.hid (fun (w' : World) (f : Fr No w w') => H.last q a ca l w' _ wq h1 h2 (hi.keep f fun _ _ h => h) hwf)
  have HPA := Lib.hid (fun (h : allO q l = true) => allO_parts h)
  obtain ⟨n, hn⟩ : ∃ n, l.length = n := ⟨_, rfl⟩
  rw [hn] at h1 HS HCH HKE HLA HPA m1 hW ⊢
  have HH := Lib.hid H
  have HW := Lib.hid hW
  have HFW := Lib.hid hfW
  have HI := Lib.hid hi
  have HN := Lib.hid hn
  clear hW hfW hi hn h1 h2 h1' H hwf
  cases hs : small10 l with
  | false =>
    rw [hs] at HS
    go_enter Try.func5, Try.ntmps5
    go_wp2_with fail
    rw [HW.out]
    go_wp2_with fail
    refine HS.out.mono ?_
    rintro e w1 ⟨rfl, hf1⟩
    have HF1 := Lib.hid (HFW.out.trans hf1)
    clear hf1
    go_wp2_with fail
    refine (awake10_c HH.out _).mono ?_
    rintro e w5 ⟨rfl, hf5⟩
    have HF5 := Lib.hid hf5
    clear hf5
    go_wp2_with fail
    go_ret
    exact ⟨rfl, HF1.out.trans HF5.out⟩
  | true =>
    rw [hs] at HS
    cases hall : allO q l with
    | false =>
      have hE : errO (allO q l) = .int .i64 100 := by rw [hall]; rfl
      rw [hE] at HCH
      clear hE hall HKE HLA HPA
      go_enter Try.func5, Try.ntmps5
      go_wp2_with fail
      rw [HW.out]
      go_wp2_with fail
      refine HS.out.mono ?_
      rintro e w1 ⟨rfl, hf1⟩
      have HF1 := Lib.hid (HFW.out.trans hf1)
      have o0 := hf1.cell m0 (fun h => h)
      have o1 := hf1.cell m1 (fun h => h)
      clear hf1 m0 m1 HS HW
      go_wp2_with fail
      refine (HCH.out w1 HF1.out).mono ?_
      rintro e w2 ⟨rfl, hf2⟩
      have HF2 := Lib.hid (HF1.out.trans hf2)
      clear hf2
      go_wp2_with fail
      refine (awake10_c HH.out _).mono ?_
      rintro e w5 ⟨rfl, hf5⟩
      have HF5 := Lib.hid hf5
      clear hf5
      go_wp2_with fail
      go_ret
      exact ⟨rfl, HF2.out.trans HF5.out⟩
    | true =>
      have hE : errO (allO q l) = .int .i64 0 := by rw [hall]; rfl
      rw [hE] at HCH
      have hL : lastO q l = q + (n : Int) - 1 := by unfold lastO; rw [hall, if_pos rfl, HN.out]
      rw [hL] at HLA
      obtain ⟨p1, p2, p3, p4, p5⟩ := HPA.out hall
      have HP5 := Lib.hid p5
      have HALL := Lib.hid hall
      clear hE hL HPA p5 hall
      go_enter Try.func5, Try.ntmps5
      go_wp2_with fail
      rw [HW.out]
      go_wp2_with fail
      refine HS.out.mono ?_
      rintro e w1 ⟨rfl, hf1⟩
      have HF1 := Lib.hid (HFW.out.trans hf1)
      have o0 := hf1.cell m0 (fun h => h)
      have o1 := hf1.cell m1 (fun h => h)
      clear hf1 m0 m1 HS HW
      go_wp2_with fail
      refine (HCH.out w1 HF1.out).mono ?_
      rintro e w2 ⟨rfl, hf2⟩
      have HF2 := Lib.hid (HF1.out.trans hf2)
      have p0 := hf2.cell o0 (fun h => h)
      have p1' := hf2.cell o1 (fun h => h)
      clear hf2 o0 o1 HCH HF1
      go_wp2_with fail
      refine (HKE.out w2 HF2.out).mono ?_
      rintro e w3 ⟨v3, rfl, hrow3, hf3⟩
      have HF3 := Lib.hid (HF2.out.trans hf3)
      have q0 := hf3.cell p0 (fun h => h)
      have q1 := hf3.cell p1' (fun h => h)
      have hks : (if allO q l = true then l.length else 0) = n := by rw [HALL.out, if_pos rfl, HN.out]
      have hks2 : keysO q l = keysC q l := by unfold keysO; rw [HALL.out, if_pos rfl]
      rw [hks, hks2] at hrow3
      obtain ⟨a3, c3, rfl, k1, k2, _, hcells⟩ := hrow3.form
      have HC3 := Lib.hid hcells
      have HK1 := Lib.hid k1
      clear hf3 p0 p1' hks hks2 hrow3 k1 k2 hcells HKE HF2
      obtain ⟨B, hB⟩ : ∃ B, w.heap.size = B := ⟨_, rfl⟩
      rw [hB] at q0 q1 ⊢
      clear hB
      have e1 : IntKind.i64.wrap (q + (n : Int)) = q + (n : Int) := IntWalk.i64_in _ (by omega)
      have e2 : IntKind.i64.wrap (q + (n : Int) - 1) = q + (n : Int) - 1 := IntWalk.i64_in _ (by omega)
      have e3 : (q + (n : Int) - 1 != IntKind.i64.wrap (IntKind.i64.wrap (q + (n : Int)) - 1)) = false := by rw [e1, e2]; simp
      clear e1 e2
      go_wp2_with fail
      go_region_held3 (fun w' => w'.cell? ⟨B, 0, none⟩ = some (.int .i64 q) ∧ w'.cell? ⟨B, 1, none⟩ = some (.slice a n ca)) (first | assumption | go_keep)
        (first
          | (go_at_call 18; refine (HLA.out _ HF3.out.drew).mono ?_; intro e w5 hret; obtain ⟨rfl, hf5⟩ := hret
             have q0 := hf5.cell (p := ⟨B, 0, none⟩) q0 (fun h => h)
             have q1 := hf5.cell (p := ⟨B, 1, none⟩) q1 (fun h => h)
             have HF5 := Lib.hid hf5
             clear hf5))
      go_wp2_with fail
      clear e3
      go_loopw [36] (fun i wr => ∃ k : Nat, i = .int .i64 k ∧ k ≤ n ∧ Fr No w5 wr) (fun i _ => n - (intOf i).toNat)
      case atStart => exact ⟨0, rfl, Nat.zero_le _, Fr.refl _ _⟩
      case round =>
        obtain ⟨k, rfl, hkn, hfr⟩ := hrel
        have HR := Lib.hid hfr
        clear hfr
        by_cases hlt : k < n
        · have hkl : k < l.length := by rw [HN.out]; exact hlt
          obtain ⟨b, o, _, rfl, hxs⟩ := HI.out (by omega)
          have hfk : Fr No w wr := (HF3.out.drew.trans HF5.out).trans HR.out
          have hx := (hxs k hkl).keep hfk (fun h => h)
          obtain ⟨d, _, rfl, hkc⟩ := HC3.out (by omega)
          obtain ⟨y0, y1, y2⟩ := keysC_get l q k hkl
          have hf35 : Fr No w3 wr := (Fr.refl No w3).drew.trans (HF5.out.trans HR.out)
          have g0 := hf35.cell ((hkc (k * 3) (by omega)).1.trans y0) (fun h => h)
          have g1 := hf35.cell ((hkc (k * 3 + 1) (by omega)).1.trans y1) (fun h => h)
          have g2 := hf35.cell ((hkc (k * 3 + 2) (by omega)).1.trans y2) (fun h => h)
          obtain ⟨r1, r2, r3, r4⟩ := rightO_parts (HP5.out _ (getD_mem l k hkl))
          generalize l.getD k op0 = x at hx g0 g1 g2 r1 r2 r3 r4
          obtain ⟨c0, c1, c2⟩ := hx
          have z0 := HR.out.cell q0 (fun h => h)
          have z1 := HR.out.cell q1 (fun h => h)
          have r4' : 1 ≤ x.k ∧ x.k ≤ 3 := by omega
          obtain ⟨Wk, hWk, hfk, t0, t1, t2⟩ := box_key wr x.key (q + k) x.k
          have z0 := hfk.cell z0 (fun h => h)
          have z1 := hfk.cell z1 (fun h => h)
          have c0 := hfk.cell c0 (fun h => h)
          have c1 := hfk.cell c1 (fun h => h)
          have HCK := Lib.hid (fun w' => keyRight_c x.key (q + k) x.k w' (by omega) (by omega) (by omega) (by omega) r4'.1 r4'.2)
          have HWK := Lib.hid hWk
          have HFK := Lib.hid hfk
          have d1 : (x.key.toList == x.key.toList) = true := beq_self_eq_true _
          have hq3 : q + (k : Int) ≤ 1099511627776 := by omega
          clear hWk hfk hf35 hxs hkc y0 y1 y2 r1 r2 r3 r4 c2
          go_wp2_with fail
          rw [HWK.out]
          obtain ⟨D, hD⟩ : ∃ D, wr.heap.size = D := ⟨_, rfl⟩
          rw [hD] at t0 t1 t2 ⊢
          clear hD
          have d2 : (x.key.toList != x.key.toList) = false := by simp
          have d3 : (x.k != x.k) = false := by simp
          have d4 : IntKind.i64.wrap (q + (k : Int)) = q + (k : Int) := IntWalk.i64_in _ (by omega)
          have d5 : (q + (k : Int) != IntKind.i64.wrap (q + (k : Int))) = false := by rw [d4]; simp
          have d6 : (q + (k : Int) != q + (k : Int)) = false := by simp
          go_region_held3 (fun w' => w'.cell? ⟨B, 0, none⟩ = some (.int .i64 q) ∧ w'.cell? ⟨B, 1, none⟩ = some (.slice (some ⟨b, o, none⟩) n ca) ∧
              w'.cell? ⟨b, o + k * 3, none⟩ = some (.int .i64 x.k) ∧ w'.cell? ⟨b, o + k * 3 + 1, none⟩ = some (.string x.key) ∧
              w'.cell? ⟨D, 0, none⟩ = some (.string x.key) ∧ w'.cell? ⟨D, 1, none⟩ = some (.int .i64 (q + (k : Int))) ∧ w'.cell? ⟨D, 2, none⟩ = some (.int .i64 x.k)) (first | assumption | go_keep)
            (first
              | (go_at_call 24; refine (HCK.out _).mono ?_; intro e w6 hret; obtain ⟨rfl, hf6⟩ := hret
                 have z0 := hf6.cell (p := ⟨B, 0, none⟩) z0 (fun h => h)
                 have z1 := hf6.cell (p := ⟨B, 1, none⟩) z1 (fun h => h)
                 have c0 := hf6.cell (p := ⟨b, o + k * 3, none⟩) c0 (fun h => h)
                 have c1 := hf6.cell (p := ⟨b, o + k * 3 + 1, none⟩) c1 (fun h => h)
                 have t0 := hf6.cell (p := ⟨D, 0, none⟩) t0 (fun h => h)
                 have t1 := hf6.cell (p := ⟨D, 1, none⟩) t1 (fun h => h)
                 have t2 := hf6.cell (p := ⟨D, 2, none⟩) t2 (fun h => h)
                 have HF6 := Lib.hid hf6
                 clear hf6))
          go_wp2_with fail
          go_roundw
          case rel => exact ⟨k + 1, by simp, by omega, (HR.out.trans HFK.out).drew.trans HF6.out⟩
          case measure => simp [intOf]; omega
        · go_wp2_with fail
          refine (awake10_c HH.out _).mono ?_
          rintro e w6 ⟨rfl, hf6⟩
          have HF6 := Lib.hid hf6
          clear hf6
          go_wp2_with fail
          go_ret
          exact ⟨rfl, (HF3.out.drew.trans HF5.out).trans (HR.out.trans HF6.out)⟩
theorem batchKeys_walk (H : BatchOK) (w : World) (q : Int) (wq : (Lit.int .i64 q).wf = true) (a : Option Addr) (ca : Nat) (l : List Op10) (h1 : l.length ≤ ca) (h2 : ca ≤ maxLen) (hi : Ops w (fun _ => True) a l) (hwf : ∀ x ∈ l, OpWf x) :
    Calls Try.prog 5 #[.agg #[.int .i64 q, .slice a l.length ca]] w fun e w' => e = .returned (.bool true) ∧ Below w.heap.size w w' := (bkeys_c H w q a ca l wq h1 h2 hi hwf).mono fun _ _ h => h.below
end Go.Proofs.Ytidfjcaajejfoaa
