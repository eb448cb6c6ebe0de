/-
  Texts of layer 13 and of what it stands on, one behind the other.
-/
import Derived.Test.YtlobnbbndkhcbaaGreatDoorMg43
import Derived.Test.YtlobnbbndkhcbaaGreatDoorMg09

/- Layer 13, the program's own: Pick, Get. -/
namespace Go.Proofs.YtlobnbbndkhcbaaGreatDoor
set_option linter.unusedVariables false
set_option linter.unusedSimpArgs false
open Go.RowKit Go.Shelf

set_option maxRecDepth 100000 in
set_option maxHeartbeats 4000000 in
theorem pick_c (w : World) (S : Nat → Prop) (a : Option Addr) (n ec : Nat) (l : List Ent) (u : ByteArray) (at_ : Int) (hn : l.length = n) (h17 : n ≤ 1000000) (hR : RightL l) (hp : Ents w S a l) :
    Calls Tryz.prog 56 #[.slice a n ec, .string u, .int .i64 at_] w (PlainRet (.tuple #[entV (gotE l u at_), .bool (decide (0 ≤ getE l u at_))]) w) := by
  have hl1 := hR.2.1
  obtain ⟨b, o, _, rfl, hx⟩ := hp (by omega)
  obtain ⟨W, hW⟩ : ∃ W, (((w.alloc (.cells #[.slice (some ⟨b, o, none⟩) n ec] 22)).alloc (.cells #[.string u] 9)).alloc (.cells #[.int .i64 at_] 3)).alloc (.cells #[.string ⟨#[]⟩, .int .i64 0, .int .i64 0, .string ⟨#[]⟩] 49) = W := ⟨_, rfl⟩
  have f0 : Fr No w W := by rw [← hW]; exact ((((Fr.refl No w).alloc _).alloc _).alloc _).alloc _
  have a0 : At W w.heap.size 22 #[.slice (some ⟨b, o, none⟩) n ec] := by
    rw [← hW]
    exact (((At.new _ _ _).keep ((Fr.refl No _).alloc _) (fun h => h)).keep ((Fr.refl No _).alloc _) (fun h => h)).keep ((Fr.refl No _).alloc _) (fun h => h)
  have a1 : At W (w.heap.size + 1) 9 #[.string u] := by
    have q := At.new (w.alloc (.cells #[.slice (some ⟨b, o, none⟩) n ec] 22)) 9 #[.string u]
    rw [World.size_alloc] at q
    rw [← hW]
    exact (q.keep ((Fr.refl No _).alloc _) (fun h => h)).keep ((Fr.refl No _).alloc _) (fun h => h)
  have a2 : At W (w.heap.size + 1 + 1) 3 #[.int .i64 at_] := by
    have q := At.new ((w.alloc (.cells #[.slice (some ⟨b, o, none⟩) n ec] 22)).alloc (.cells #[.string u] 9)) 3 #[.int .i64 at_]
    rw [World.size_alloc, World.size_alloc] at q
    rw [← hW]
    exact q.keep ((Fr.refl No _).alloc _) (fun h => h)
  have a3 : At W (w.heap.size + 1 + 1 + 1) 49 #[.string ⟨#[]⟩, .int .i64 0, .int .i64 0, .string ⟨#[]⟩] := by
    have q := At.new (((w.alloc (.cells #[.slice (some ⟨b, o, none⟩) n ec] 22)).alloc (.cells #[.string u] 9)).alloc (.cells #[.int .i64 at_] 3)) 49 #[.string ⟨#[]⟩, .int .i64 0, .int .i64 0, .string ⟨#[]⟩]
    rw [World.size_alloc, World.size_alloc, World.size_alloc] at q
    rw [← hW]
    exact q
  have c0 := a0.cell 0
  have c1 := a1.cell 0
  have c2 := a2.cell 0
  simp at c0 c1 c2
  have CS := Lib.hid (search13_c n h17 w.heap.size (w.heap.size + 1) (w.heap.size + 1 + 1) (fun i => atP13 u at_ (l.getD i ent0)) (fun i j h1 h2 h3 => atP_mono hR u at_ h1 (by omega) h3) W fun i w' hi f => pick1_c l b o ec n u at_ w.heap.size (w.heap.size + 1) (w.heap.size + 1 + 1) i w' hn hi (f.cell c0 (fun h => h)) (f.cell c1 (fun h => h)) (f.cell c2 (fun h => h)) ((hx i (by omega)).keep (f0.trans f) (fun h => h)))
  have HPI := Lib.hid (fun (r : Nat) (hr : r ≤ l.length) h1 h2 => pick_is hR u at_ (r := r) hr h1 h2)
  have HX := Lib.hid hx
  have HN := Lib.hid hn
  have F0 := Lib.hid f0
  have A0 := Lib.hid a0
  have A1 := Lib.hid a1
  have A3 := Lib.hid a3
  have HW := Lib.hid hW
  rw [← hW] at c0
  clear hx hn f0 a0 a1 a2 a3 hW hp c1 c2
  go_enter Tryz.func56, Tryz.ntmps56
  go_wp2_with fail
  rw [HW.out]
  refine (show Calls _ _ _ _ _ from CS.out).mono ?_
  rintro e1 w1 ⟨r, rfl, hr, hr1, hr2, f1⟩
  have HGE := Lib.hid (HPI.out r (by rw [HN.out]; exact hr) hr1 (fun h => hr2 (by rw [← HN.out]; exact h)))
  have F1 := Lib.hid (F0.out.trans f1)
  have A01 := Lib.hid (A0.out.keep f1 (fun h => h))
  have A11 := Lib.hid (A1.out.keep f1 (fun h => h))
  have A31 := Lib.hid (A3.out.keep f1 (fun h => h))
  have d0 := A01.out.cell 0
  have d1 := A11.out.cell 0
  simp at d0 d1
  clear hr1 hr2 f1 CS c0
  by_cases hrn : r < n
  · obtain ⟨x, hxe⟩ : ∃ x, l.getD r ent0 = x := ⟨_, rfl⟩
    have hx := HX.out r (by rw [HN.out]; exact hrn)
    rw [hxe] at hx
    have e0 := F1.out.cell hx.c0 (fun h => h)
    have e1 := F1.out.cell hx.c1 (fun h => h)
    have e2 := F1.out.cell hx.c2 (fun h => h)
    have e3 := F1.out.cell hx.c3 (fun h => h)
    have hrs : (((r : Int)) == (n : Int)) = false := by rw [beq_eq_false_iff_ne]; omega
    have hri : (r : Int) < (n : Int) := by omega
    have hr0 : (0 : Int) ≤ (r : Int) := by omega
    have heq := toList_eq_iff x.u u
    have hGE : getE l u at_ = if x.u = u then (r : Int) else -1 := by
      rw [HGE.out, hxe, HN.out]
      by_cases h : x.u = u
      · rw [if_pos h, if_pos ⟨hrn, h⟩]
      · rw [if_neg h, if_neg fun h9 => h h9.2]
    have HXE := Lib.hid hxe
    clear hx hxe
    by_cases hu : x.u = u
    · have hut : decide (x.u = u) = true := decide_eq_true hu
      rw [hut] at heq
      have HG : Hid (entV (gotE l u at_) = entV x ∧ decide (0 ≤ getE l u at_) = true) := Lib.hid (by
        unfold gotE
        rw [hGE, if_pos hu, if_neg (by omega), Int.toNat_natCast, HXE.out]
        exact ⟨rfl, decide_eq_true hr0⟩)
      clear hGE hu
      go_wp2_with fail
      refine wp_region_held_drew (S := (fun w' => w'.cell? ⟨w.heap.size, 0, none⟩ = some (.slice (some ⟨b, o, none⟩) n ec) ∧ w'.cell? ⟨w.heap.size + 1, 0, none⟩ = some (.string u) ∧ w'.cell? ⟨b, o + r * 4, none⟩ = some (.string x.u))) (by kernel_rfl) ⟨(Fr.refl No _).drew.cell d0 (fun h => h), (Fr.refl No _).drew.cell d1 (fun h => h), (Fr.refl No _).drew.cell e0 (fun h => h)⟩ (fun hHeld => ?_)
      refine take_drop (i := 0) (v := ?v0_1) rfl (by kernel_rfl) (by kernel_rfl) (by kernel_rfl) (fun _ _ _ h => h) (Or.inl ⟨by rfl, ?h0_1⟩) hHeld ?r0_1
      case h0_1 => (intro wS hSw; obtain ⟨s1, s2, s3⟩ := hSw; go_simp; all_goals (with_reducible rfl))
      simp only [Act.put, List.setIfInBounds_toArray, List.set_cons_zero, List.set_cons_succ]
      refine take_drop (i := 1) (v := ?v1_1) rfl (by kernel_rfl) (by kernel_rfl) (by kernel_rfl) (fun _ _ _ h => h) (Or.inl ⟨by rfl, ?h1_1⟩) hHeld ?r1_1
      case h1_1 => (intro wS hSw; obtain ⟨s1, s2, s3⟩ := hSw; go_simp; all_goals (with_reducible rfl))
      simp only [Act.put, List.setIfInBounds_toArray, List.set_cons_zero, List.set_cons_succ]
      refine take_drop (i := 2) (v := ?v2_1) rfl (by kernel_rfl) (by kernel_rfl) (by kernel_rfl) (fun _ _ _ h => h) (Or.inl ⟨by rfl, ?h2_1⟩) hHeld ?r2_1
      case h2_1 => (intro wS hSw; obtain ⟨s1, s2, s3⟩ := hSw; go_simp; all_goals (with_reducible rfl))
      simp only [Act.put, List.setIfInBounds_toArray, List.set_cons_zero, List.set_cons_succ]
      refine take_drop (i := 3) (v := ?v3_1) rfl (by kernel_rfl) (by kernel_rfl) (by kernel_rfl) (fun _ _ _ h => h) (Or.inl ⟨by rfl, ?h3_1⟩) hHeld ?r3_1
      case h3_1 => (intro wS hSw; obtain ⟨s1, s2, s3⟩ := hSw; go_simp; all_goals (with_reducible rfl))
      simp only [Act.put, List.setIfInBounds_toArray, List.set_cons_zero, List.set_cons_succ]
      refine take_drop (i := 4) (v := ?v4_1) rfl (by kernel_rfl) (by kernel_rfl) (by kernel_rfl) (fun _ _ _ h => h) (Or.inl ⟨by rfl, ?h4_1⟩) hHeld ?r4_1
      case h4_1 => (intro wS hSw; obtain ⟨s1, s2, s3⟩ := hSw; go_simp; all_goals (with_reducible rfl))
      simp only [Act.put, List.setIfInBounds_toArray, List.set_cons_zero, List.set_cons_succ]
      refine take_drop (i := 5) (v := ?v5_1) rfl (by kernel_rfl) (by kernel_rfl) (by kernel_rfl) (fun _ _ _ h => h) (Or.inl ⟨by rfl, ?h5_1⟩) hHeld ?r5_1
      case h5_1 => (intro wS hSw; obtain ⟨s1, s2, s3⟩ := hSw; go_simp; all_goals (with_reducible rfl))
      simp only [Act.put, List.setIfInBounds_toArray, List.set_cons_zero, List.set_cons_succ]
      refine take_drop (i := 6) (v := ?v6_1) rfl (by kernel_rfl) (by kernel_rfl) (by kernel_rfl) (fun _ _ _ h => h) (Or.inl ⟨by rfl, ?h6_1⟩) hHeld ?r6_1
      case h6_1 => (intro wS hSw; obtain ⟨s1, s2, s3⟩ := hSw; go_simp; all_goals (with_reducible rfl))
      simp only [Act.put, List.setIfInBounds_toArray, List.set_cons_zero, List.set_cons_succ]
      refine take_drop (i := 7) (v := ?v7_1) rfl (by kernel_rfl) (by kernel_rfl) (by kernel_rfl) (fun _ _ _ h => h) (Or.inl ⟨by rfl, ?h7_1⟩) hHeld ?r7_1
      case h7_1 => (intro wS hSw; obtain ⟨s1, s2, s3⟩ := hSw; go_simp; all_goals (with_reducible rfl))
      simp only [Act.put, List.setIfInBounds_toArray, List.set_cons_zero, List.set_cons_succ]
      refine take_drop (i := 8) (v := ?v8_1) rfl (by kernel_rfl) (by kernel_rfl) (by kernel_rfl) (fun _ _ _ h => h) (Or.inl ⟨by rfl, ?h8_1⟩) hHeld ?r8_1
      case h8_1 => (intro wS hSw; obtain ⟨s1, s2, s3⟩ := hSw; go_simp; all_goals (with_reducible rfl))
      simp only [Act.put, List.setIfInBounds_toArray, List.set_cons_zero, List.set_cons_succ]
      refine take_drop (i := 9) (v := ?v9_1) rfl (by kernel_rfl) (by kernel_rfl) (by kernel_rfl) (fun _ _ _ h => h) (Or.inl ⟨by rfl, ?h9_1⟩) hHeld ?r9_1
      case h9_1 => (intro wS hSw; obtain ⟨s1, s2, s3⟩ := hSw; go_simp; all_goals (with_reducible rfl))
      simp only [Act.put, List.setIfInBounds_toArray, List.set_cons_zero, List.set_cons_succ]
      refine take_drop (i := 10) (v := ?v10_1) rfl (by kernel_rfl) (by kernel_rfl) (by kernel_rfl) (fun _ _ _ h => h) (Or.inl ⟨by rfl, ?h10_1⟩) hHeld ?r10_1
      case h10_1 => (intro wS hSw; obtain ⟨s1, s2, s3⟩ := hSw; go_simp; all_goals (with_reducible rfl))
      simp only [Act.put, List.setIfInBounds_toArray, List.set_cons_zero, List.set_cons_succ]
      refine take_drop (i := 11) (v := ?v11_1) rfl (by kernel_rfl) (by kernel_rfl) (by kernel_rfl) (fun _ _ _ h => h) (Or.inl ⟨by rfl, ?h11_1⟩) hHeld ?r11_1
      case h11_1 => (intro wS hSw; obtain ⟨s1, s2, s3⟩ := hSw; go_simp; all_goals (with_reducible rfl))
      simp only [Act.put, List.setIfInBounds_toArray, List.set_cons_zero, List.set_cons_succ]
      refine take_drop (i := 12) (v := ?v12_1) rfl (by kernel_rfl) (by kernel_rfl) (by kernel_rfl) (fun _ _ _ h => h) (Or.inl ⟨by rfl, ?h12_1⟩) hHeld ?r12_1
      case h12_1 => (intro wS hSw; obtain ⟨s1, s2, s3⟩ := hSw; go_simp; all_goals (with_reducible rfl))
      simp only [Act.put, List.setIfInBounds_toArray, List.set_cons_zero, List.set_cons_succ]
      refine take_drop (i := 13) (v := ?v13_1) rfl (by kernel_rfl) (by kernel_rfl) (by kernel_rfl) (fun _ _ _ h => h) (Or.inl ⟨by rfl, ?h13_1⟩) hHeld ?r13_1
      case h13_1 => (intro wS hSw; obtain ⟨s1, s2, s3⟩ := hSw; go_simp; all_goals (with_reducible rfl))
      simp only [Act.put, List.setIfInBounds_toArray, List.set_cons_zero, List.set_cons_succ]
      refine wpAnyH_done (by kernel_rfl) ?_ _
      have fd := (Fr.refl No w1).drew
      have AD := A31.out.keep fd (fun h => h)
      have F2 := Lib.hid (F1.out.trans fd)
      have d0 := fd.cell d0 (fun h => h)
      have e0 := fd.cell e0 (fun h => h)
      have e1 := fd.cell e1 (fun h => h)
      have e2 := fd.cell e2 (fun h => h)
      have e3 := fd.cell e3 (fun h => h)
      obtain ⟨w2, hw2⟩ : ∃ w2, w1.drew = w2 := ⟨_, rfl⟩
      rw [hw2] at AD F2 d0 e0 e1 e2 e3 ⊢
      clear fd hw2 hHeld
      have z0 := AD.frozen 0
      have z1 := (AD.set_ 0 (Value.string x.u)).frozen 1
      have z2 := ((AD.set_ 0 (Value.string x.u)).set_ 1 (Value.int .i64 x.q)).frozen 2
      have z3 := (((AD.set_ 0 (Value.string x.u)).set_ 1 (Value.int .i64 x.q)).set_ 2 (Value.int .i64 x.k)).frozen 3
      have y0 := AD.cell 0
      have y1 := (AD.set_ 0 (Value.string x.u)).cell 1
      have y2 := ((AD.set_ 0 (Value.string x.u)).set_ 1 (Value.int .i64 x.q)).cell 2
      have y3 := (((AD.set_ 0 (Value.string x.u)).set_ 1 (Value.int .i64 x.q)).set_ 2 (Value.int .i64 x.k)).cell 3
      have AZ := Lib.hid ((((AD.set_ 0 (Value.string x.u)).set_ 1 (Value.int .i64 x.q)).set_ 2 (Value.int .i64 x.k)).set_ 3 (Value.string x.val))
      have FZ := Lib.hid ((((F2.out.setCell (p := ⟨w.heap.size + 1 + 1 + 1, 0, none⟩) (fun h => absurd h (by simp only; omega)) (Value.string x.u)).setCell (p := ⟨w.heap.size + 1 + 1 + 1, 1, none⟩) (fun h => absurd h (by simp only; omega)) (Value.int .i64 x.q)).setCell (p := ⟨w.heap.size + 1 + 1 + 1, 2, none⟩) (fun h => absurd h (by simp only; omega)) (Value.int .i64 x.k)).setCell (p := ⟨w.heap.size + 1 + 1 + 1, 3, none⟩) (fun h => absurd h (by simp only; omega)) (Value.string x.val))
      clear AD
      go_wp2_with fail
      exact bodyPost_ret (pick_results rfl _ _ _ _ _ _ _ _ rfl rfl AZ.out) rfl ⟨by first | rfl | (rw [HG.out.1, HG.out.2]; rfl), FZ.out⟩
    · have hut : decide (x.u = u) = false := decide_eq_false hu
      rw [hut] at heq
      have HG : Hid (entV (gotE l u at_) = entV ent0 ∧ decide (0 ≤ getE l u at_) = false) := Lib.hid (by
        unfold gotE
        rw [hGE, if_neg hu, if_pos (by omega)]
        exact ⟨rfl, by decide⟩)
      clear hGE hu
      go_wp2_with fail
      refine wp_region_held_drew (S := (fun w' => w'.cell? ⟨w.heap.size, 0, none⟩ = some (.slice (some ⟨b, o, none⟩) n ec) ∧ w'.cell? ⟨w.heap.size + 1, 0, none⟩ = some (.string u) ∧ w'.cell? ⟨b, o + r * 4, none⟩ = some (.string x.u))) (by kernel_rfl) ⟨(Fr.refl No _).drew.cell d0 (fun h => h), (Fr.refl No _).drew.cell d1 (fun h => h), (Fr.refl No _).drew.cell e0 (fun h => h)⟩ (fun hHeld => ?_)
      refine take_drop (i := 0) (v := ?v0_2) rfl (by kernel_rfl) (by kernel_rfl) (by kernel_rfl) (fun _ _ _ h => h) (Or.inl ⟨by rfl, ?h0_2⟩) hHeld ?r0_2
      case h0_2 => (intro wS hSw; obtain ⟨s1, s2, s3⟩ := hSw; go_simp; all_goals (with_reducible rfl))
      simp only [Act.put, List.setIfInBounds_toArray, List.set_cons_zero, List.set_cons_succ]
      refine take_drop (i := 1) (v := ?v1_2) rfl (by kernel_rfl) (by kernel_rfl) (by kernel_rfl) (fun _ _ _ h => h) (Or.inl ⟨by rfl, ?h1_2⟩) hHeld ?r1_2
      case h1_2 => (intro wS hSw; obtain ⟨s1, s2, s3⟩ := hSw; go_simp; all_goals (with_reducible rfl))
      simp only [Act.put, List.setIfInBounds_toArray, List.set_cons_zero, List.set_cons_succ]
      refine take_drop (i := 2) (v := ?v2_2) rfl (by kernel_rfl) (by kernel_rfl) (by kernel_rfl) (fun _ _ _ h => h) (Or.inl ⟨by rfl, ?h2_2⟩) hHeld ?r2_2
      case h2_2 => (intro wS hSw; obtain ⟨s1, s2, s3⟩ := hSw; go_simp; all_goals (with_reducible rfl))
      simp only [Act.put, List.setIfInBounds_toArray, List.set_cons_zero, List.set_cons_succ]
      refine take_drop (i := 3) (v := ?v3_2) rfl (by kernel_rfl) (by kernel_rfl) (by kernel_rfl) (fun _ _ _ h => h) (Or.inl ⟨by rfl, ?h3_2⟩) hHeld ?r3_2
      case h3_2 => (intro wS hSw; obtain ⟨s1, s2, s3⟩ := hSw; go_simp; all_goals (with_reducible rfl))
      simp only [Act.put, List.setIfInBounds_toArray, List.set_cons_zero, List.set_cons_succ]
      refine take_drop (i := 4) (v := ?v4_2) rfl (by kernel_rfl) (by kernel_rfl) (by kernel_rfl) (fun _ _ _ h => h) (Or.inl ⟨by rfl, ?h4_2⟩) hHeld ?r4_2
      case h4_2 => (intro wS hSw; obtain ⟨s1, s2, s3⟩ := hSw; go_simp; all_goals (with_reducible rfl))
      simp only [Act.put, List.setIfInBounds_toArray, List.set_cons_zero, List.set_cons_succ]
      refine take_drop (i := 5) (v := ?v5_2) rfl (by kernel_rfl) (by kernel_rfl) (by kernel_rfl) (fun _ _ _ h => h) (Or.inl ⟨by rfl, ?h5_2⟩) hHeld ?r5_2
      case h5_2 => (intro wS hSw; obtain ⟨s1, s2, s3⟩ := hSw; go_simp; all_goals (with_reducible rfl))
      simp only [Act.put, List.setIfInBounds_toArray, List.set_cons_zero, List.set_cons_succ]
      refine take_drop (i := 6) (v := ?v6_2) rfl (by kernel_rfl) (by kernel_rfl) (by kernel_rfl) (fun _ _ _ h => h) (Or.inl ⟨by rfl, ?h6_2⟩) hHeld ?r6_2
      case h6_2 => (intro wS hSw; obtain ⟨s1, s2, s3⟩ := hSw; go_simp; all_goals (with_reducible rfl))
      simp only [Act.put, List.setIfInBounds_toArray, List.set_cons_zero, List.set_cons_succ]
      refine take_drop (i := 7) (v := ?v7_2) rfl (by kernel_rfl) (by kernel_rfl) (by kernel_rfl) (fun _ _ _ h => h) (Or.inl ⟨by rfl, ?h7_2⟩) hHeld ?r7_2
      case h7_2 => (intro wS hSw; obtain ⟨s1, s2, s3⟩ := hSw; go_simp; all_goals (with_reducible rfl))
      simp only [Act.put, List.setIfInBounds_toArray, List.set_cons_zero, List.set_cons_succ]
      refine take_drop (i := 8) (v := ?v8_2) rfl (by kernel_rfl) (by kernel_rfl) (by kernel_rfl) (fun _ _ _ h => h) (Or.inl ⟨by rfl, ?h8_2⟩) hHeld ?r8_2
      case h8_2 => (intro wS hSw; obtain ⟨s1, s2, s3⟩ := hSw; go_simp; all_goals (with_reducible rfl))
      simp only [Act.put, List.setIfInBounds_toArray, List.set_cons_zero, List.set_cons_succ]
      refine take_drop (i := 9) (v := ?v9_2) rfl (by kernel_rfl) (by kernel_rfl) (by kernel_rfl) (fun _ _ _ h => h) (Or.inl ⟨by rfl, ?h9_2⟩) hHeld ?r9_2
      case h9_2 => (intro wS hSw; obtain ⟨s1, s2, s3⟩ := hSw; go_simp; all_goals (with_reducible rfl))
      simp only [Act.put, List.setIfInBounds_toArray, List.set_cons_zero, List.set_cons_succ]
      refine take_drop (i := 10) (v := ?v10_2) rfl (by kernel_rfl) (by kernel_rfl) (by kernel_rfl) (fun _ _ _ h => h) (Or.inl ⟨by rfl, ?h10_2⟩) hHeld ?r10_2
      case h10_2 => (intro wS hSw; obtain ⟨s1, s2, s3⟩ := hSw; go_simp; all_goals (with_reducible rfl))
      simp only [Act.put, List.setIfInBounds_toArray, List.set_cons_zero, List.set_cons_succ]
      refine take_drop (i := 11) (v := ?v11_2) rfl (by kernel_rfl) (by kernel_rfl) (by kernel_rfl) (fun _ _ _ h => h) (Or.inl ⟨by rfl, ?h11_2⟩) hHeld ?r11_2
      case h11_2 => (intro wS hSw; obtain ⟨s1, s2, s3⟩ := hSw; go_simp; all_goals (with_reducible rfl))
      simp only [Act.put, List.setIfInBounds_toArray, List.set_cons_zero, List.set_cons_succ]
      refine take_drop (i := 12) (v := ?v12_2) rfl (by kernel_rfl) (by kernel_rfl) (by kernel_rfl) (fun _ _ _ h => h) (Or.inl ⟨by rfl, ?h12_2⟩) hHeld ?r12_2
      case h12_2 => (intro wS hSw; obtain ⟨s1, s2, s3⟩ := hSw; go_simp; all_goals (with_reducible rfl))
      simp only [Act.put, List.setIfInBounds_toArray, List.set_cons_zero, List.set_cons_succ]
      refine take_drop (i := 13) (v := ?v13_2) rfl (by kernel_rfl) (by kernel_rfl) (by kernel_rfl) (fun _ _ _ h => h) (Or.inl ⟨by rfl, ?h13_2⟩) hHeld ?r13_2
      case h13_2 => (intro wS hSw; obtain ⟨s1, s2, s3⟩ := hSw; go_simp; all_goals (with_reducible rfl))
      simp only [Act.put, List.setIfInBounds_toArray, List.set_cons_zero, List.set_cons_succ]
      refine wpAnyH_done (by kernel_rfl) ?_ _
      have fd := (Fr.refl No w1).drew
      have AD := A31.out.keep fd (fun h => h)
      have F2 := Lib.hid (F1.out.trans fd)
      have d0 := fd.cell d0 (fun h => h)
      have e0 := fd.cell e0 (fun h => h)
      have e1 := fd.cell e1 (fun h => h)
      have e2 := fd.cell e2 (fun h => h)
      have e3 := fd.cell e3 (fun h => h)
      obtain ⟨w2, hw2⟩ : ∃ w2, w1.drew = w2 := ⟨_, rfl⟩
      rw [hw2] at AD F2 d0 e0 e1 e2 e3 ⊢
      clear fd hw2 hHeld
      have z0 := AD.frozen 0
      have z1 := (AD.set_ 0 (Value.string ⟨#[]⟩)).frozen 1
      have z2 := ((AD.set_ 0 (Value.string ⟨#[]⟩)).set_ 1 (Value.int .i64 0)).frozen 2
      have z3 := (((AD.set_ 0 (Value.string ⟨#[]⟩)).set_ 1 (Value.int .i64 0)).set_ 2 (Value.int .i64 0)).frozen 3
      have y0 := AD.cell 0
      have y1 := (AD.set_ 0 (Value.string ⟨#[]⟩)).cell 1
      have y2 := ((AD.set_ 0 (Value.string ⟨#[]⟩)).set_ 1 (Value.int .i64 0)).cell 2
      have y3 := (((AD.set_ 0 (Value.string ⟨#[]⟩)).set_ 1 (Value.int .i64 0)).set_ 2 (Value.int .i64 0)).cell 3
      have AZ := Lib.hid ((((AD.set_ 0 (Value.string ⟨#[]⟩)).set_ 1 (Value.int .i64 0)).set_ 2 (Value.int .i64 0)).set_ 3 (Value.string ⟨#[]⟩))
      have FZ := Lib.hid ((((F2.out.setCell (p := ⟨w.heap.size + 1 + 1 + 1, 0, none⟩) (fun h => absurd h (by simp only; omega)) (Value.string ⟨#[]⟩)).setCell (p := ⟨w.heap.size + 1 + 1 + 1, 1, none⟩) (fun h => absurd h (by simp only; omega)) (Value.int .i64 0)).setCell (p := ⟨w.heap.size + 1 + 1 + 1, 2, none⟩) (fun h => absurd h (by simp only; omega)) (Value.int .i64 0)).setCell (p := ⟨w.heap.size + 1 + 1 + 1, 3, none⟩) (fun h => absurd h (by simp only; omega)) (Value.string ⟨#[]⟩))
      clear AD
      go_wp2_with fail
      exact bodyPost_ret (pick_results rfl _ _ _ _ _ _ _ _ rfl rfl AZ.out) rfl ⟨by first | rfl | (rw [HG.out.1, HG.out.2]; rfl), FZ.out⟩
  · have hrn2 : r = n := by omega
    subst hrn2
    have hrs : (((r : Int)) == (r : Int)) = true := by rw [beq_iff_eq]
    have HG : Hid (entV (gotE l u at_) = entV ent0 ∧ decide (0 ≤ getE l u at_) = false) := Lib.hid (by
      have hg : getE l u at_ = -1 := by rw [HGE.out, if_neg (fun h => by have := h.1; rw [HN.out] at this; omega)]
      unfold gotE
      rw [hg]
      exact ⟨rfl, rfl⟩)
    go_wp2_with fail
    refine wp_region_held_drew (S := (fun w' => w'.cell? ⟨w.heap.size, 0, none⟩ = some (.slice (some ⟨b, o, none⟩) r ec))) (by kernel_rfl) ((Fr.refl No _).drew.cell d0 (fun h => h)) (fun hHeld => ?_)
    refine take_drop (i := 0) (v := ?v0_3) rfl (by kernel_rfl) (by kernel_rfl) (by kernel_rfl) (fun _ _ _ h => h) (Or.inl ⟨by rfl, ?h0_3⟩) hHeld ?r0_3
    case h0_3 => (intro wS hSw; go_simp; all_goals (with_reducible rfl))
    simp only [Act.put, List.setIfInBounds_toArray, List.set_cons_zero, List.set_cons_succ]
    refine take_drop (i := 1) (v := ?v1_3) rfl (by kernel_rfl) (by kernel_rfl) (by kernel_rfl) (fun _ _ _ h => h) (Or.inl ⟨by rfl, ?h1_3⟩) hHeld ?r1_3
    case h1_3 => (intro wS hSw; go_simp; all_goals (with_reducible rfl))
    simp only [Act.put, List.setIfInBounds_toArray, List.set_cons_zero, List.set_cons_succ]
    refine take_drop (i := 2) (v := ?v2_3) rfl (by kernel_rfl) (by kernel_rfl) (by kernel_rfl) (fun _ _ _ h => h) (Or.inl ⟨by rfl, ?h2_3⟩) hHeld ?r2_3
    case h2_3 => (intro wS hSw; go_simp; all_goals (with_reducible rfl))
    simp only [Act.put, List.setIfInBounds_toArray, List.set_cons_zero, List.set_cons_succ]
    refine take_drop (i := 3) (v := ?v3_3) rfl (by kernel_rfl) (by kernel_rfl) (by kernel_rfl) (fun _ _ _ h => h) (Or.inl ⟨by rfl, ?h3_3⟩) hHeld ?r3_3
    case h3_3 => (intro wS hSw; go_simp; all_goals (with_reducible rfl))
    simp only [Act.put, List.setIfInBounds_toArray, List.set_cons_zero, List.set_cons_succ]
    refine take_drop (i := 4) (v := ?v4_3) rfl (by kernel_rfl) (by kernel_rfl) (by kernel_rfl) (fun _ _ _ h => h) (Or.inl ⟨by rfl, ?h4_3⟩) hHeld ?r4_3
    case h4_3 => (intro wS hSw; go_simp; all_goals (with_reducible rfl))
    simp only [Act.put, List.setIfInBounds_toArray, List.set_cons_zero, List.set_cons_succ]
    refine take_drop (i := 5) (v := undef) rfl (by kernel_rfl) (by kernel_rfl) (by kernel_rfl) (fun _ _ _ h => h) (Or.inr ⟨by rfl, rfl⟩) hHeld ?_
    simp only [Act.put, List.setIfInBounds_toArray, List.set_cons_zero, List.set_cons_succ]
    refine take_drop (i := 6) (v := undef) rfl (by kernel_rfl) (by kernel_rfl) (by kernel_rfl) (fun _ _ _ h => h) (Or.inr ⟨by rfl, rfl⟩) hHeld ?_
    simp only [Act.put, List.setIfInBounds_toArray, List.set_cons_zero, List.set_cons_succ]
    refine take_drop (i := 7) (v := undef) rfl (by kernel_rfl) (by kernel_rfl) (by kernel_rfl) (fun _ _ _ h => h) (Or.inr ⟨by rfl, rfl⟩) hHeld ?_
    simp only [Act.put, List.setIfInBounds_toArray, List.set_cons_zero, List.set_cons_succ]
    refine take_drop (i := 8) (v := undef) rfl (by kernel_rfl) (by kernel_rfl) (by kernel_rfl) (fun _ _ _ h => h) (Or.inr ⟨by rfl, rfl⟩) hHeld ?_
    simp only [Act.put, List.setIfInBounds_toArray, List.set_cons_zero, List.set_cons_succ]
    refine take_drop (i := 9) (v := undef) rfl (by kernel_rfl) (by kernel_rfl) (by kernel_rfl) (fun _ _ _ h => h) (Or.inr ⟨by rfl, rfl⟩) hHeld ?_
    simp only [Act.put, List.setIfInBounds_toArray, List.set_cons_zero, List.set_cons_succ]
    refine take_drop (i := 10) (v := undef) rfl (by kernel_rfl) (by kernel_rfl) (by kernel_rfl) (fun _ _ _ h => h) (Or.inr ⟨by rfl, rfl⟩) hHeld ?_
    simp only [Act.put, List.setIfInBounds_toArray, List.set_cons_zero, List.set_cons_succ]
    refine take_drop (i := 11) (v := undef) rfl (by kernel_rfl) (by kernel_rfl) (by kernel_rfl) (fun _ _ _ h => h) (Or.inr ⟨by rfl, rfl⟩) hHeld ?_
    simp only [Act.put, List.setIfInBounds_toArray, List.set_cons_zero, List.set_cons_succ]
    refine take_drop (i := 12) (v := undef) rfl (by kernel_rfl) (by kernel_rfl) (by kernel_rfl) (fun _ _ _ h => h) (Or.inr ⟨by rfl, rfl⟩) hHeld ?_
    simp only [Act.put, List.setIfInBounds_toArray, List.set_cons_zero, List.set_cons_succ]
    refine take_drop (i := 13) (v := ?v13_3) rfl (by kernel_rfl) (by kernel_rfl) (by kernel_rfl) (fun _ _ _ h => h) (Or.inl ⟨by rfl, ?h13_3⟩) hHeld ?r13_3
    case h13_3 => (intro wS hSw; go_simp; all_goals (with_reducible rfl))
    simp only [Act.put, List.setIfInBounds_toArray, List.set_cons_zero, List.set_cons_succ]
    refine wpAnyH_done (by kernel_rfl) ?_ _
    have fd := (Fr.refl No w1).drew
    have AD := A31.out.keep fd (fun h => h)
    have F2 := Lib.hid (F1.out.trans fd)
    obtain ⟨w2, hw2⟩ : ∃ w2, w1.drew = w2 := ⟨_, rfl⟩
    rw [hw2] at AD F2 ⊢
    clear fd hw2 hHeld
    have z0 := AD.frozen 0
    have z1 := (AD.set_ 0 (Value.string ⟨#[]⟩)).frozen 1
    have z2 := ((AD.set_ 0 (Value.string ⟨#[]⟩)).set_ 1 (Value.int .i64 0)).frozen 2
    have z3 := (((AD.set_ 0 (Value.string ⟨#[]⟩)).set_ 1 (Value.int .i64 0)).set_ 2 (Value.int .i64 0)).frozen 3
    have y0 := AD.cell 0
    have y1 := (AD.set_ 0 (Value.string ⟨#[]⟩)).cell 1
    have y2 := ((AD.set_ 0 (Value.string ⟨#[]⟩)).set_ 1 (Value.int .i64 0)).cell 2
    have y3 := (((AD.set_ 0 (Value.string ⟨#[]⟩)).set_ 1 (Value.int .i64 0)).set_ 2 (Value.int .i64 0)).cell 3
    have AZ := Lib.hid ((((AD.set_ 0 (Value.string ⟨#[]⟩)).set_ 1 (Value.int .i64 0)).set_ 2 (Value.int .i64 0)).set_ 3 (Value.string ⟨#[]⟩))
    have FZ := Lib.hid ((((F2.out.setCell (p := ⟨w.heap.size + 1 + 1 + 1, 0, none⟩) (fun h => absurd h (by simp only; omega)) (Value.string ⟨#[]⟩)).setCell (p := ⟨w.heap.size + 1 + 1 + 1, 1, none⟩) (fun h => absurd h (by simp only; omega)) (Value.int .i64 0)).setCell (p := ⟨w.heap.size + 1 + 1 + 1, 2, none⟩) (fun h => absurd h (by simp only; omega)) (Value.int .i64 0)).setCell (p := ⟨w.heap.size + 1 + 1 + 1, 3, none⟩) (fun h => absurd h (by simp only; omega)) (Value.string ⟨#[]⟩))
    clear AD
    go_wp2_with fail
    exact bodyPost_ret (pick_results rfl _ _ _ _ _ _ _ _ rfl rfl AZ.out) rfl ⟨by first | rfl | (rw [HG.out.1, HG.out.2]; rfl), FZ.out⟩
set_option maxRecDepth 20000 in
set_option maxHeartbeats 2000000 in
theorem tget_c {w : World} {t : Nat} {F : Nat → Prop} {l : List Ent} {c : Nat} (u : ByteArray) (at_ : Int) (h : TbM w t F l c) :
    Calls Tryz.prog 27 #[.pointer (some ⟨t, 0, none⟩), .string u, .int .i64 at_] w (PlainRet (.tuple #[entV (gotE l u at_), .bool (decide (0 ≤ getE l u at_))]) w) := by
  obtain ⟨_, _, ea, ec, bf, g, fb, p, hat, _, _, hen, _, _, _, hr, hfew, _⟩ := h
  obtain ⟨W, hW⟩ : ∃ W, w.alloc (.cells #[.string ⟨#[]⟩, .int .i64 0, .int .i64 0, .string ⟨#[]⟩] 49) = W := ⟨_, rfl⟩
  have f0 : Fr No w W := by rw [← hW]; exact (Fr.refl No w).alloc _
  have a0 : At W w.heap.size 49 #[.string ⟨#[]⟩, .int .i64 0, .int .i64 0, .string ⟨#[]⟩] := by rw [← hW]; exact At.new _ _ _
  have c0 := f0.cell (hat.cell 0) (fun h => h)
  simp at c0
  have CP := Lib.hid (pick_c W F ea l.length ec l u at_ rfl (by have := hfew.len; omega) hr (hen.keep f0 (fun _ _ h => h)))
  rw [← hW] at c0
  have HW := Lib.hid hW
  have F0 := Lib.hid f0
  have A0 := Lib.hid a0
  obtain ⟨y, hy⟩ : ∃ y, gotE l u at_ = y := ⟨_, rfl⟩
  rw [hy] at CP ⊢
  generalize decide (0 ≤ getE l u at_) = d at *
  unfold entV at CP ⊢
  clear hat hen hr hfew hW f0 a0 hy
  generalize l.length = n at *
  go_enter Tryz.func27, Tryz.ntmps27
  go_wp2_with fail
  rw [HW.out]
  refine (show Calls _ _ _ _ _ from CP.out).mono ?_
  rintro e1 w1 ⟨rfl, f1⟩
  have AD := A0.out.keep f1 (fun h => h)
  have F2 := Lib.hid (F0.out.trans f1)
  clear f1 CP c0
  have z0 := AD.frozen 0
  have z1 := (AD.set_ 0 (Value.string y.u)).frozen 1
  have z2 := ((AD.set_ 0 (Value.string y.u)).set_ 1 (Value.int .i64 y.q)).frozen 2
  have z3 := (((AD.set_ 0 (Value.string y.u)).set_ 1 (Value.int .i64 y.q)).set_ 2 (Value.int .i64 y.k)).frozen 3
  have y0 := AD.cell 0
  have y1 := (AD.set_ 0 (Value.string y.u)).cell 1
  have y2 := ((AD.set_ 0 (Value.string y.u)).set_ 1 (Value.int .i64 y.q)).cell 2
  have y3 := (((AD.set_ 0 (Value.string y.u)).set_ 1 (Value.int .i64 y.q)).set_ 2 (Value.int .i64 y.k)).cell 3
  have AZ := Lib.hid ((((AD.set_ 0 (Value.string y.u)).set_ 1 (Value.int .i64 y.q)).set_ 2 (Value.int .i64 y.k)).set_ 3 (Value.string y.val))
  have FZ := Lib.hid ((((F2.out.setCell (p := ⟨w.heap.size, 0, none⟩) (fun h => absurd h (Nat.lt_irrefl _)) (Value.string y.u)).setCell (p := ⟨w.heap.size, 1, none⟩) (fun h => absurd h (Nat.lt_irrefl _)) (Value.int .i64 y.q)).setCell (p := ⟨w.heap.size, 2, none⟩) (fun h => absurd h (Nat.lt_irrefl _)) (Value.int .i64 y.k)).setCell (p := ⟨w.heap.size, 3, none⟩) (fun h => absurd h (Nat.lt_irrefl _)) (Value.string y.val))
  clear AD
  go_wp2_with fail
  exact bodyPost_ret (pick_results rfl _ _ _ _ _ _ _ _ rfl rfl AZ.out) rfl ⟨by first | rfl | (rw [HG.out.1, HG.out.2]; rfl), FZ.out⟩
end Go.Proofs.YtlobnbbndkhcbaaGreatDoor
