/-
  Layer 13: contract of the document's Right.
-/
import Derived.Test.YtlobnbbndkhcbaaGreatDoorMg23
import Derived.Test.YtlobnbbndkhcbaaGreatDoorMxIkR
import Derived.Test.YtlobnbbndkhcbaaGreatDoorMg15
import Derived.Test.YtlobnbbndkhcbaaGreatDoorMg09
import Derived.Deep.RegionHeld3
namespace Go.Proofs.YtlobnbbndkhcbaaGreatDoor
set_option linter.unusedVariables false
open Go.RowKit

set_option maxRecDepth 20000 in
set_option maxHeartbeats 3200000 in
theorem refRight13_c (a : Option Addr) (cap n : Nat) (l : List Ent) (w : World) (S : Nat → Prop) (hn : l.length = n) (hr : RightL l) (hi : Ents w S a l) (hwf : ∀ y ∈ l, EntWf y) :
    Calls Tryz.prog 15 #[.slice a n cap] w (PlainRet (.bool true) w) := by
  have HN := Lib.hid hn
  have HI := Lib.hid hi
  have HWF := Lib.hid hwf
  have HR := Lib.hid hr
  have h1 : 1 ≤ n := by have := hr.2.1; omega
  have h2 : n ≤ 65536 := by have := hr.2.2; omega
  clear hn hi hwf hr
  go_enter Tryz.func15, Tryz.ntmps15
  go_wp2_with fail
  go_loopw [3] (fun i wr => ∃ k : Nat, i = .int .i64 (k : Int) ∧ k ≤ n ∧ Fr No w wr) (fun i _ => n - (intOf i).toNat)
  case atStart => exact ⟨0, rfl, Nat.zero_le _, Fr.refl _ _⟩
  case round =>
    obtain ⟨k, rfl, hk, hfr⟩ := hrel
    have HF := Lib.hid hfr
    clear hfr
    by_cases hlt : k < n
    · have hkl : k < l.length := by rw [HN.out]; exact hlt
      obtain ⟨b, o, _, rfl, hxs⟩ := HI.out (by omega)
      have hy := (hxs k hkl).keep HF.out (fun h => h)
      obtain ⟨hrt, hcm⟩ := HR.out.1 k hkl
      have HYW := Lib.hid (HWF.out _ (getD_memE l k hkl))
      have hfx := HF.out.drew
      by_cases h0 : k = 0
      · subst h0
        obtain ⟨y, hy0⟩ : ∃ y, l.getD 0 ent0 = y := ⟨_, rfl⟩
        rw [hy0] at hy hrt HYW
        clear hy0 hcm hxs
        rw [show o + 0 * 4 = o by omega] at hy
        obtain ⟨c0, c1, c2, c3⟩ := hy
        have HRK := Lib.hid (fun w' => right_yes y.u y.q y.k w' hrt)
        have hn0 : (0 : Int) < (n : Int) := by omega
        clear hrt
        go_wp2_with fail
        refine wp_region_held_drew (S := fun w' => w'.cell? ⟨b, o, none⟩ = some (.string y.u) ∧ w'.cell? ⟨b, o + 1, none⟩ = some (.int .i64 y.q) ∧ w'.cell? ⟨b, o + 2, none⟩ = some (.int .i64 y.k)) (by kernel_rfl) ⟨c0, c1, c2⟩ (fun hHeld => ?_)
        refine take_drop (i := 0) (v := ?v0_2) rfl (by kernel_rfl) (by kernel_rfl) (by kernel_rfl) (fun _ _ _ h => h) (Or.inl ⟨by rfl, ?h0_2⟩) ⟨c0, c1, c2⟩ ?r0_2
        case h0_2 => (intro wS hSw; obtain ⟨s0, s1, s2⟩ := hSw; go_simp; all_goals (with_reducible rfl))
        simp only [Act.put, List.setIfInBounds_toArray, List.set_cons_zero, List.set_cons_succ]
        refine take_drop (i := 1) (v := ?v1_3) rfl (by kernel_rfl) (by kernel_rfl) (by kernel_rfl) (fun _ _ _ h => h) (Or.inl ⟨by rfl, ?h1_3⟩) ⟨c0, c1, c2⟩ ?r1_3
        case h1_3 => (intro wS hSw; obtain ⟨s0, s1, s2⟩ := hSw; go_simp; all_goals (with_reducible rfl))
        simp only [Act.put, List.setIfInBounds_toArray, List.set_cons_zero, List.set_cons_succ]
        refine take_drop (i := 2) (v := ?v2_4) rfl (by kernel_rfl) (by kernel_rfl) (by kernel_rfl) (fun _ _ _ h => h) (Or.inl ⟨by rfl, ?h2_4⟩) ⟨c0, c1, c2⟩ ?r2_4
        case h2_4 => (intro wS hSw; obtain ⟨s0, s1, s2⟩ := hSw; go_simp; all_goals (with_reducible rfl))
        simp only [Act.put, List.setIfInBounds_toArray, List.set_cons_zero, List.set_cons_succ]
        refine take_drop (i := 3) (v := ?v3_5) rfl (by kernel_rfl) (by kernel_rfl) (by kernel_rfl) (fun _ _ _ h => h) (Or.inl ⟨by rfl, ?h3_5⟩) ⟨c0, c1, c2⟩ ?r3_5
        case h3_5 => (intro wS hSw; obtain ⟨s0, s1, s2⟩ := hSw; go_simp; all_goals (with_reducible rfl))
        simp only [Act.put, List.setIfInBounds_toArray, List.set_cons_zero, List.set_cons_succ]
        refine take_drop (i := 4) (v := ?v4_6) rfl (by kernel_rfl) (by kernel_rfl) (by kernel_rfl) (fun _ _ _ h => h) (Or.inl ⟨by rfl, ?h4_6⟩) ⟨c0, c1, c2⟩ ?r4_6
        case h4_6 => (intro wS hSw; obtain ⟨s0, s1, s2⟩ := hSw; go_simp; all_goals (with_reducible rfl))
        simp only [Act.put, List.setIfInBounds_toArray, List.set_cons_zero, List.set_cons_succ]
        refine wpAnyH_ready (rs := [5]) (by kernel_rfl) (by simp) ?_
        refine do_drop (i := 5) rfl (fun K hK => ?_) AllReadyH.nil
        go_simp
        refine (HRK.out _).mono ?_
        rintro e w6 ⟨rfl, hf6⟩
        have c0 := hf6.cell (p := ⟨b, o, none⟩) c0 (fun h => h)
        have c1 := hf6.cell (p := ⟨b, o + 1, none⟩) c1 (fun h => h)
        have c2 := hf6.cell (p := ⟨b, o + 2, none⟩) c2 (fun h => h)
        have hfx := hfx.trans hf6
        clear hf6
        refine hK.out _ _ ⟨c0, c1, c2⟩ ?_
        clear hK K
        try simp only [Act.put, List.setIfInBounds_toArray, List.set_cons_zero, List.set_cons_succ]
        refine take_drop (i := 6) (v := ?v6_7) rfl (by kernel_rfl) (by kernel_rfl) (by kernel_rfl) (fun _ _ _ h => h) (Or.inl ⟨by rfl, ?h6_7⟩) ⟨c0, c1, c2⟩ ?r6_7
        case h6_7 => (intro wS hSw; obtain ⟨s0, s1, s2⟩ := hSw; go_simp; all_goals (with_reducible rfl))
        simp only [Act.put, List.setIfInBounds_toArray, List.set_cons_zero, List.set_cons_succ]
        refine take_drop (i := 7) (v := ?v7_8) rfl (by kernel_rfl) (by kernel_rfl) (by kernel_rfl) (fun _ _ _ h => h) (Or.inl ⟨by rfl, ?h7_8⟩) ⟨c0, c1, c2⟩ ?r7_8
        case h7_8 => (intro wS hSw; obtain ⟨s0, s1, s2⟩ := hSw; go_simp; all_goals (with_reducible rfl))
        simp only [Act.put, List.setIfInBounds_toArray, List.set_cons_zero, List.set_cons_succ]
        refine take_drop (i := 8) (v := ?v8_9) rfl (by kernel_rfl) (by kernel_rfl) (by kernel_rfl) (fun _ _ _ h => h) (Or.inl ⟨by rfl, ?h8_9⟩) ⟨c0, c1, c2⟩ ?r8_9
        case h8_9 => (intro wS hSw; obtain ⟨s0, s1, s2⟩ := hSw; go_simp; all_goals (with_reducible rfl))
        simp only [Act.put, List.setIfInBounds_toArray, List.set_cons_zero, List.set_cons_succ]
        refine take_drop (i := 9) (v := ?v9_10) rfl (by kernel_rfl) (by kernel_rfl) (by kernel_rfl) (fun _ _ _ h => h) (Or.inl ⟨by rfl, ?h9_10⟩) ⟨c0, c1, c2⟩ ?r9_10
        case h9_10 => (intro wS hSw; obtain ⟨s0, s1, s2⟩ := hSw; go_simp; all_goals (with_reducible rfl))
        simp only [Act.put, List.setIfInBounds_toArray, List.set_cons_zero, List.set_cons_succ]
        refine take_drop (i := 10) (v := ?v10_11) rfl (by kernel_rfl) (by kernel_rfl) (by kernel_rfl) (fun _ _ _ h => h) (Or.inl ⟨by rfl, ?h10_11⟩) ⟨c0, c1, c2⟩ ?r10_11
        case h10_11 => (intro wS hSw; obtain ⟨s0, s1, s2⟩ := hSw; go_simp; all_goals (with_reducible rfl))
        simp only [Act.put, List.setIfInBounds_toArray, List.set_cons_zero, List.set_cons_succ]
        refine take_drop (i := 11) (v := undef) rfl (by kernel_rfl) (by kernel_rfl) (by kernel_rfl) (fun _ _ _ h => h) (Or.inr ⟨by rfl, rfl⟩) ⟨c0, c1, c2⟩ ?_
        simp only [Act.put, List.setIfInBounds_toArray, List.set_cons_zero, List.set_cons_succ]
        refine take_drop (i := 12) (v := undef) rfl (by kernel_rfl) (by kernel_rfl) (by kernel_rfl) (fun _ _ _ h => h) (Or.inr ⟨by rfl, rfl⟩) ⟨c0, c1, c2⟩ ?_
        simp only [Act.put, List.setIfInBounds_toArray, List.set_cons_zero, List.set_cons_succ]
        refine take_drop (i := 13) (v := undef) rfl (by kernel_rfl) (by kernel_rfl) (by kernel_rfl) (fun _ _ _ h => h) (Or.inr ⟨by rfl, rfl⟩) ⟨c0, c1, c2⟩ ?_
        simp only [Act.put, List.setIfInBounds_toArray, List.set_cons_zero, List.set_cons_succ]
        refine take_drop (i := 14) (v := undef) rfl (by kernel_rfl) (by kernel_rfl) (by kernel_rfl) (fun _ _ _ h => h) (Or.inr ⟨by rfl, rfl⟩) ⟨c0, c1, c2⟩ ?_
        simp only [Act.put, List.setIfInBounds_toArray, List.set_cons_zero, List.set_cons_succ]
        refine take_drop (i := 15) (v := undef) rfl (by kernel_rfl) (by kernel_rfl) (by kernel_rfl) (fun _ _ _ h => h) (Or.inr ⟨by rfl, rfl⟩) ⟨c0, c1, c2⟩ ?_
        simp only [Act.put, List.setIfInBounds_toArray, List.set_cons_zero, List.set_cons_succ]
        refine take_drop (i := 16) (v := undef) rfl (by kernel_rfl) (by kernel_rfl) (by kernel_rfl) (fun _ _ _ h => h) (Or.inr ⟨by rfl, rfl⟩) ⟨c0, c1, c2⟩ ?_
        simp only [Act.put, List.setIfInBounds_toArray, List.set_cons_zero, List.set_cons_succ]
        refine take_drop (i := 17) (v := undef) rfl (by kernel_rfl) (by kernel_rfl) (by kernel_rfl) (fun _ _ _ h => h) (Or.inr ⟨by rfl, rfl⟩) ⟨c0, c1, c2⟩ ?_
        simp only [Act.put, List.setIfInBounds_toArray, List.set_cons_zero, List.set_cons_succ]
        refine take_drop (i := 18) (v := undef) rfl (by kernel_rfl) (by kernel_rfl) (by kernel_rfl) (fun _ _ _ h => h) (Or.inr ⟨by rfl, rfl⟩) ⟨c0, c1, c2⟩ ?_
        simp only [Act.put, List.setIfInBounds_toArray, List.set_cons_zero, List.set_cons_succ]
        refine take_drop (i := 19) (v := undef) rfl (by kernel_rfl) (by kernel_rfl) (by kernel_rfl) (fun _ _ _ h => h) (Or.inr ⟨by rfl, rfl⟩) ⟨c0, c1, c2⟩ ?_
        simp only [Act.put, List.setIfInBounds_toArray, List.set_cons_zero, List.set_cons_succ]
        refine take_drop (i := 20) (v := undef) rfl (by kernel_rfl) (by kernel_rfl) (by kernel_rfl) (fun _ _ _ h => h) (Or.inr ⟨by rfl, rfl⟩) ⟨c0, c1, c2⟩ ?_
        simp only [Act.put, List.setIfInBounds_toArray, List.set_cons_zero, List.set_cons_succ]
        refine take_drop (i := 21) (v := undef) rfl (by kernel_rfl) (by kernel_rfl) (by kernel_rfl) (fun _ _ _ h => h) (Or.inr ⟨by rfl, rfl⟩) ⟨c0, c1, c2⟩ ?_
        simp only [Act.put, List.setIfInBounds_toArray, List.set_cons_zero, List.set_cons_succ]
        refine take_drop (i := 22) (v := undef) rfl (by kernel_rfl) (by kernel_rfl) (by kernel_rfl) (fun _ _ _ h => h) (Or.inr ⟨by rfl, rfl⟩) ⟨c0, c1, c2⟩ ?_
        simp only [Act.put, List.setIfInBounds_toArray, List.set_cons_zero, List.set_cons_succ]
        refine take_drop (i := 23) (v := undef) rfl (by kernel_rfl) (by kernel_rfl) (by kernel_rfl) (fun _ _ _ h => h) (Or.inr ⟨by rfl, rfl⟩) ⟨c0, c1, c2⟩ ?_
        simp only [Act.put, List.setIfInBounds_toArray, List.set_cons_zero, List.set_cons_succ]
        refine take_drop (i := 24) (v := ?v24_12) rfl (by kernel_rfl) (by kernel_rfl) (by kernel_rfl) (fun _ _ _ h => h) (Or.inl ⟨by rfl, ?h24_12⟩) ⟨c0, c1, c2⟩ ?r24_12
        case h24_12 => (intro wS hSw; obtain ⟨s0, s1, s2⟩ := hSw; go_simp; all_goals (with_reducible rfl))
        simp only [Act.put, List.setIfInBounds_toArray, List.set_cons_zero, List.set_cons_succ]
        refine take_drop (i := 25) (v := ?v25_13) rfl (by kernel_rfl) (by kernel_rfl) (by kernel_rfl) (fun _ _ _ h => h) (Or.inl ⟨by rfl, ?h25_13⟩) ⟨c0, c1, c2⟩ ?r25_13
        case h25_13 => (intro wS hSw; obtain ⟨s0, s1, s2⟩ := hSw; go_simp; all_goals (with_reducible rfl))
        simp only [Act.put, List.setIfInBounds_toArray, List.set_cons_zero, List.set_cons_succ]
        refine wpAnyH_done (by kernel_rfl) ?_ _
        have HFX := Lib.hid hfx
        clear hfx
        go_wp2_with fail
        go_roundw
        case rel => exact ⟨1, by simp, by omega, HFX.out⟩
        case measure => simp [intOf]; omega
      · obtain ⟨m, rfl⟩ : ∃ m, k = m + 1 := ⟨k - 1, by omega⟩
        have hz := (hxs m (by omega)).keep HF.out (fun h => h)
        have HZW := Lib.hid (HWF.out _ (getD_memE l m (by omega)))
        have hcm := hcm (by omega)
        rw [Nat.add_sub_cancel] at hcm
        obtain ⟨y, hy0⟩ : ∃ y, l.getD (m + 1) ent0 = y := ⟨_, rfl⟩
        obtain ⟨z, hz0⟩ : ∃ z, l.getD m ent0 = z := ⟨_, rfl⟩
        rw [hy0] at hy hrt hcm HYW
        rw [hz0] at hz hcm HZW
        obtain ⟨k, hkm⟩ : ∃ k, m + 1 = k := ⟨_, rfl⟩
        rw [hkm] at hy hlt ⊢
        have HRK := Lib.hid (fun w' => right_yes y.u y.q y.k w' hrt)
        have HCP := Lib.hid (fun w' => refCmp_c z.u y.u z.q z.k y.q y.k HZW.out.1 HYW.out.1 w')
        have hce : cmpK z.u.data.toList z.q z.k y.u.data.toList y.q y.k = cmpE z y := rfl
        rw [hce] at HCP
        obtain ⟨c, hc⟩ : ∃ c, cmpE z y = c := ⟨_, rfl⟩
        rw [hc] at hcm HCP
        have dc : decide (c ≥ 0) = false := decide_eq_false (by omega)
        have dk : decide ((k : Int) > 0) = true := decide_eq_true (by omega)
        have dk2 : decide (0 < k) = true := decide_eq_true (by omega)
        have dk3 : decide ((0 : Int) < (k : Int)) = true := decide_eq_true (by omega)
        have hk0 : 0 < k := by omega
        have hm1 : (k : Int) - 1 = (m : Int) := by omega
        have hm0 : (0 : Int) ≤ (m : Int) := by omega
        have hml : (m : Int) < (n : Int) := by omega
        have hkn : (k : Int) < (n : Int) := by omega
        have hwr : IntKind.i64.wrap ((k : Int) - 1) = (m : Int) := by rw [hm1]; exact IntWalk.i64_in _ (by omega)
        have hwm : IntKind.i64.wrap (m : Int) = (m : Int) := IntWalk.i64_in _ (by omega)
        obtain ⟨c0, c1, c2, c3⟩ := hy
        obtain ⟨e0, e1, e2, e3⟩ := hz
        have HKM := Lib.hid hkm
        clear hy0 hz0 hrt hce hc hxs hkl h0 hkm
        go_wp2_with fail
        go_region_held3 (fun w' => w'.cell? ⟨b, o + k * 4, none⟩ = some (.string y.u) ∧ w'.cell? ⟨b, o + k * 4 + 1, none⟩ = some (.int .i64 y.q) ∧ w'.cell? ⟨b, o + k * 4 + 2, none⟩ = some (.int .i64 y.k) ∧ w'.cell? ⟨b, o + m * 4, none⟩ = some (.string z.u) ∧ w'.cell? ⟨b, o + m * 4 + 1, none⟩ = some (.int .i64 z.q) ∧ w'.cell? ⟨b, o + m * 4 + 2, none⟩ = some (.int .i64 z.k) ∧ Fr No w w') (first | assumption | go_keep)
          (first
            | (go_at_call 40; refine (HRK.out _).mono ?_; intro e w6 hret; obtain ⟨rfl, hf6⟩ := hret
               have c0 := hf6.cell (p := ⟨b, o + k * 4, none⟩) c0 (fun h => h)
               have c1 := hf6.cell (p := ⟨b, o + k * 4 + 1, none⟩) c1 (fun h => h)
               have c2 := hf6.cell (p := ⟨b, o + k * 4 + 2, none⟩) c2 (fun h => h)
               have e0 := hf6.cell (p := ⟨b, o + m * 4, none⟩) e0 (fun h => h)
               have e1 := hf6.cell (p := ⟨b, o + m * 4 + 1, none⟩) e1 (fun h => h)
               have e2 := hf6.cell (p := ⟨b, o + m * 4 + 2, none⟩) e2 (fun h => h)
               have hfx := hfx.trans hf6
               clear hf6)
            | (go_at_call 41; refine (HCP.out _).mono ?_; intro e w6 hret; obtain ⟨rfl, hf6⟩ := hret
               have c0 := hf6.cell (p := ⟨b, o + k * 4, none⟩) c0 (fun h => h)
               have c1 := hf6.cell (p := ⟨b, o + k * 4 + 1, none⟩) c1 (fun h => h)
               have c2 := hf6.cell (p := ⟨b, o + k * 4 + 2, none⟩) c2 (fun h => h)
               have e0 := hf6.cell (p := ⟨b, o + m * 4, none⟩) e0 (fun h => h)
               have e1 := hf6.cell (p := ⟨b, o + m * 4 + 1, none⟩) e1 (fun h => h)
               have e2 := hf6.cell (p := ⟨b, o + m * 4 + 2, none⟩) e2 (fun h => h)
               have hfx := hfx.trans hf6
               clear hf6))
        have HFX := Lib.hid hfx
        clear hfx
        go_wp2_with fail
        go_roundw
        case rel => exact ⟨k + 1, by simp, by omega, HFX.out⟩
        case measure => simp [intOf]; omega
    · obtain rfl : k = n := by omega
      have d65 : decide ((k : Int) ≤ 65536) = true := decide_eq_true (by omega)
      have d1 : decide ((k : Int) ≥ 1) = true := decide_eq_true (by omega)
      have hk1 : (1 : Int) ≤ (k : Int) := by omega
      go_wp2_with fail
      go_ret
      exact ⟨rfl, HF.out⟩
end Go.Proofs.YtlobnbbndkhcbaaGreatDoor
