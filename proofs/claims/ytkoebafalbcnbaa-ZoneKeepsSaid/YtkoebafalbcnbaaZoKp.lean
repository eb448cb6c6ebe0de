/-
  Layer 7: the walk of ZoneKeeps, over the contracts of a device.
-/
import Derived.Test.YtkoebafalbcnbaaZoK
import Derived.Test.YtkoebafalbcnbaaZoOp
import Derived.StillTailTactics
namespace Go.Proofs.Ytkoebafalbcnbaa
set_option linter.unusedVariables false
open Go.RowKit

section
variable {D : World → Nat → (Nat → Prop) → Dev → Prop}
theorem sizeU8' (w : World) : (sizeOf 5).run Try.prog w = .ok 1 w := size_one cellsU8 (by
  obtain ⟨i0, hi, _, hz1, _⟩ := info_parts infoU8
  exact ⟨i0, hi, hz1⟩) w
theorem OwnZ.keepK (M : ZoneOK D) {w0 w w' : World} {d : Nat} {F T : Nat → Prop} {m : Dev} (h : OwnZ D w0 w d F m) (f : Fr T w w') (h1 : ∀ k, F k → ¬ T k) (h2 : ∀ k, T k → w0.heap.size ≤ k) : OwnZ D w0 w' d F m :=
  ⟨M.keep h.dv f h1, h.new, h.fr.then_ f fun x hx hT => absurd (h2 x hT) (by omega), h.wf⟩
set_option maxRecDepth 20000 in
set_option maxHeartbeats 32000000 in
theorem zoneKeeps_walk (M : ZoneOK D) (W : World) (gz gs go : Int) (wz : wf64 gz) (ws : wf64 gs) (wo : wf64 go) (a : Option Addr) (cap : Nat) (l : List Op7) (hc : l.length ≤ cap) (hm : cap ≤ maxLen) (rd : Op7s W a l) :
    Calls Try.prog 3 #[.agg #[.int .i64 gz, .int .i64 gs, .int .i64 go], .slice a l.length cap] W fun e w' => e = .returned (.bool true) ∧ Below W.heap.size W w' := by
  have HM := Lib.hid M
  have f0 := (Fr.refl No W).alloc (.cells #[.int .i64 gz, .int .i64 gs, .int .i64 go] 23)
  have A0 := At.new W 23 #[.int .i64 gz, .int .i64 gs, .int .i64 go]
  obtain ⟨W1, hW1⟩ : ∃ x, W.alloc (.cells #[.int .i64 gz, .int .i64 gs, .int .i64 go] 23) = x := ⟨_, rfl⟩
  rw [hW1] at f0 A0
  have HF0 := Lib.hid f0
  have HA0 := Lib.hid A0
  have g0 := A0.cell 0
  have g1 := A0.cell 1
  have g2 := A0.cell 2
  simp at g0 g1 g2
  have HRD := Lib.hid (rd.keep f0)
  have HNEW := Lib.hid (newZ M gz gs go W1 wz ws wo W1 (Fr.refl _ _))
  have HCK : Hid (∀ w, Calls Try.prog 9 #[.agg #[.int .i64 gz, .int .i64 gs, .int .i64 go]] w (TellZ (.bool (rightG gz gs go)) w)) := Lib.hid fun w => M.check gz gs go w wz ws wo
  have HSM : Hid (∀ w, Fr No W w → Calls Try.prog 8 #[.slice a l.length cap, .int .i64 100] w fun e w' => e = .returned (.bool (small7 l 100)) ∧ Fr No w w') := Lib.hid fun w f => small_c a cap l 100 w hc hm (rd.keep f)
  have fin : ∀ w' : World, Fr No W w' → Below W.heap.size W w' := fun w' f => f.below (Nat.le_refl _) (fun _ h => h.elim)
  have FIN := Lib.hid fin
  unfold maxLen at hm
  obtain ⟨N, hN⟩ : ∃ N, l.length = N := ⟨_, rfl⟩
  rw [hN] at hc HSM
  rw [hN]
  have HN := Lib.hid hN
  have HSY := Lib.hid (fun h => small7_yes (l := l) (most := 100) h)
  clear fin rd wz ws wo hN f0 A0
  go_enter Try.func3, Try.ntmps3
  go_wp2_with fail
  refine HNEW.out.mono ?_
  rintro e w1 ⟨f1, ⟨hr, rfl⟩ | ⟨hr, d, F1, rfl, h1, _⟩⟩
  · rw [hr] at HCK
    have HF1 := Lib.hid f1
    have c0 := HA0.out.keep f1 (fun h => h)
    have g0 := c0.cell 0
    have g1 := c0.cell 1
    have g2 := c0.cell 2
    simp at g0 g1 g2
    have he : ∀ w : World, (binOp .eql 25 (.pointer none) (.pointer none)).run Try.prog w = .ok (.bool true) w := fun _ => rfl
    have he2 : ∀ w : World, (binOp .neq 25 (.pointer none) (.pointer none)).run Try.prog w = .ok (.bool false) w := fun _ => rfl
    clear f1 c0 hr HNEW HSM
    go_wp2_with fail
    refine (HCK.out _).mono ?_
    rintro e w2 ⟨rfl, f2⟩
    have HF2 := Lib.hid (HF1.out.trans f2)
    clear f2
    go_wp2_with fail
    refine (awake_c HM.out _).mono ?_
    rintro e w3 ⟨rfl, f3⟩
    have HF3 := Lib.hid (HF0.out.trans (HF2.out.trans f3))
    clear f3
    go_wp2_with fail
    go_ret
    exact ⟨rfl, FIN.out _ HF3.out⟩
  have hr6 := rightG_iff.1 hr
  rw [hr] at HCK
  obtain ⟨Z, rfl⟩ : ∃ z : Nat, gz = (z : Int) := ⟨gz.toNat, by omega⟩
  obtain ⟨S, rfl⟩ : ∃ z : Nat, gs = (z : Int) := ⟨gs.toNat, by omega⟩
  obtain ⟨O, rfl⟩ : ∃ z : Nat, go = (z : Int) := ⟨go.toNat, by omega⟩
  have HG : Hid (GeoI (newM (Z : Int) (S : Int) (O : Int)) Z S O) := Lib.hid ⟨by simp [newM], by simp [newM], by simp [newM]⟩
  have he : ∀ w : World, (binOp .eql 25 (.pointer (some ⟨d, 0, none⟩)) (.pointer none)).run Try.prog w = .ok (.bool false) w := fun _ => rfl
  have he2 : ∀ w : World, (binOp .neq 25 (.pointer (some ⟨d, 0, none⟩)) (.pointer none)).run Try.prog w = .ok (.bool true) w := fun _ => rfl
  have H1 := Lib.hid h1
  have HS1 := Lib.hid (HSM.out w1 (HF0.out.trans h1.fr))
  clear h1 HNEW HSM f1 hr
  go_wp2_with fail
  refine HS1.out.mono ?_
  rintro e w2 ⟨rfl, f2⟩
  have H2 := Lib.hid (H1.out.keep HM.out f2)
  clear f2 HS1 H1 g0 g1 g2
  have c0 := HA0.out.keep H2.out.fr (fun h => h)
  have g0 := c0.cell 0
  have g1 := c0.cell 1
  have g2 := c0.cell 2
  simp at g0 g1 g2
  clear c0
  cases hsm : small7 l 100 with
  | false =>
    clear hsm
    go_wp2_with fail
    refine (HCK.out _).mono ?_
    rintro e w3 ⟨rfl, f3⟩
    have HF3 := Lib.hid (H2.out.fr.trans f3)
    clear f3
    go_wp2_with fail
    refine (awake_c HM.out _).mono ?_
    rintro e w4 ⟨rfl, f4⟩
    have HF4 := Lib.hid (HF0.out.trans (HF3.out.trans f4))
    clear f4
    go_wp2_with fail
    go_ret
    exact ⟨rfl, FIN.out _ HF4.out⟩
  | true =>
    have HSI := Lib.hid (HSY.out hsm)
    have hN100 : N ≤ 100 := by
      have := HSI.out.1
      rw [HN.out] at this
      omega
    clear hsm HSY HCK
    have hZ64 : Z ≤ 64 := by omega
    clear hr6
    have MK1 := make_slots rowBB (by omega) w2 Z (by omega)
    rw [show (Value.slice none 0 0).cells = #[.slice none 0 0] from rfl, made_one] at MK1
    obtain ⟨w3, hw3⟩ : ∃ x, w2.alloc (.cells (List.replicate Z (.slice none 0 0)).toArray 31) = x := ⟨_, rfl⟩
    rw [hw3] at MK1
    have f3 : Fr No w2 w3 := by rw [← hw3]; exact (Fr.refl No w2).alloc _
    have L3 : At w3 w2.heap.size 31 (List.replicate Z (.slice none 0 0)).toArray := by rw [← hw3]; exact At.new w2 _ _
    have g3 := f3.cell (p := ⟨W.heap.size, 0, none⟩) g0 (fun h => h)
    have MK2 := make_slots rowII (by omega) w3 Z (by omega)
    rw [show (Value.int .i64 0).cells = #[.int .i64 0] from rfl, made_one] at MK2
    obtain ⟨w4, hw4⟩ : ∃ x, w3.alloc (.cells (List.replicate Z (.int .i64 0)).toArray 3) = x := ⟨_, rfl⟩
    rw [hw4] at MK2
    have f4 : Fr No w3 w4 := by rw [← hw4]; exact (Fr.refl No w3).alloc _
    have G4 : At w4 w3.heap.size 3 (List.replicate Z (.int .i64 0)).toArray := by rw [← hw4]; exact At.new w3 _ _
    have L4 := L3.keep f4 (fun h => h)
    have hLG : w2.heap.size < w3.heap.size := L3.lt
    obtain ⟨L, hL⟩ : ∃ L, w2.heap.size = L := ⟨_, rfl⟩
    obtain ⟨G, hG⟩ : ∃ G, w3.heap.size = G := ⟨_, rfl⟩
    have hLw : W1.heap.size ≤ L := by rw [← hL]; exact H2.out.fr.size
    have hnl : ¬ F1 L := H2.out.low HM.out L (by omega)
    have hng : ¬ F1 G := H2.out.low HM.out G (by omega)
    rw [hL] at MK1 L4 hLG
    rw [hG] at MK2 G4 hLG
    have H4 := Lib.hid (H2.out.keep HM.out (f3.trans f4))
    have HK0 : Hid (KS W1 w4 L G Z (List.replicate Z tx0) (List.replicate Z 0) F1 No) := Lib.hid ⟨by
        have : laidC (List.replicate Z tx0) = (List.replicate Z (.slice none 0 0)).toArray := by unfold laidC tx0; rw [List.map_replicate]; rfl
        rw [this]; exact L4, by
        have : safeC (List.replicate Z 0) = (List.replicate Z (.int .i64 0)).toArray := by unfold safeC; rw [List.map_replicate]; rfl
        rw [this]; exact G4, by simp, by simp, fun i hi => by
        have : (List.replicate Z tx0).getD i tx0 = tx0 := by rw [List.getD_eq_getElem?_getD, List.getElem?_replicate, if_pos hi]; rfl
        rw [this]
        exact ⟨Nat.le_refl _, by simp [tx0, maxLen], In.nil _ _ _⟩, fun k h => h.elim, fun k h => h.elim, hnl, hng, by omega, hLw, by omega⟩
    have HR0 : Hid (KR (newM (Z : Int) (S : Int) (O : Int)) Z (List.replicate Z tx0) (List.replicate Z 0)) := Lib.hid ⟨HG.out.z, by simp, by simp, fun i hi => by
        have : (List.replicate Z tx0).getD i tx0 = tx0 := by rw [List.getD_eq_getElem?_getD, List.getElem?_replicate, if_pos hi]; rfl
        rw [this]
        unfold bM newM
        rw [List.getD_eq_getElem?_getD, List.getElem?_replicate, if_pos (by simpa using hi)]
        rfl, fun i hi => by
        have : (List.replicate Z (0 : Nat)).getD i 0 = 0 := by rw [List.getD_eq_getElem?_getD, List.getElem?_replicate, if_pos hi]; rfl
        rw [this]
        unfold fM newM
        rw [List.getD_eq_getElem?_getD, List.getElem?_replicate, if_pos (by simpa using hi)]
        rfl⟩
    clear f3 f4 L3 L4 G4 hLG hLw hnl hng H2 HG
    go_wp2_with fail
    try rw [hw3]
    try rw [hw4]
    clear MK1 MK2 g0 g1 g2 g3
    go_loopw [41] (fun i wr => ∃ (j : Nat) (F : Nat → Prop) (m : Dev) (xs : List Tx) (fs : List Nat) (X : Nat → Prop), i = .int .i64 j ∧ j ≤ N ∧ OwnZ D W1 wr d F m ∧ KS W1 wr L G Z xs fs F X ∧ KR m Z xs fs ∧ m.done ≤ j) (fun i _ => N - (intOf i).toNat)
    case atStart => exact ⟨0, F1, _, _, _, No, rfl, Nat.zero_le _, H4.out, HK0.out, HR0.out, Nat.le_refl _⟩
    case round =>
      clear H4 HK0 HR0 hw3 hw4
      obtain ⟨j, F, m, xs, fs, X, rfl, hj, hown, hks, hkr, hdone⟩ := hrel
      have HO := Lib.hid hown
      have HKS := Lib.hid hks
      have HKR := Lib.hid hkr
      clear hown hks hkr
      by_cases h1 : j < N
      · have d1 : decide ((j : Int) < (N : Int)) = true := by rw [decide_eq_true_eq]; omega
        obtain ⟨b, o, rfl, hx⟩ := HRD.out (by rw [HN.out]; omega)
        obtain ⟨x, hx0⟩ : ∃ x, l[j]? = some x := ⟨_, List.getElem?_eq_getElem (by rw [HN.out]; exact h1)⟩
        have hxj := (hx j x hx0).keep HO.out.fr
        have hsz := HSI.out.2 j x hx0
        have HXJ := Lib.hid (hx j x hx0)
        have q0 := hxj.c0
        have q1 := hxj.c1
        have q2 := hxj.c2
        have q3 := hxj.c3
        have q4 := hxj.c4
        have q5 := hxj.c5
        clear hx hx0 hxj
        obtain ⟨xk, xz, xt, xn, xda, xdc, xd, xka, xkc, xks⟩ := x
        simp only at q0 q1 q2 q3 q4 q5 hsz
        have HSZ := Lib.hid hsz
        obtain ⟨dn, hdn⟩ : ∃ m, xd.length = m := ⟨_, rfl⟩
        obtain ⟨kn, hkn⟩ : ∃ m, xks.length = m := ⟨_, rfl⟩
        rw [hdn] at q4
        rw [hkn] at q5
        have HDN := Lib.hid hdn
        have HKN := Lib.hid hkn
        have HDL : Hid (dn ≤ xdc ∧ xdc ≤ maxLen ∧ Rd W1 xda xd) := Lib.hid ⟨by rw [← hdn]; exact HXJ.out.dl, HXJ.out.dm, HXJ.out.dr⟩
        have HKL : Hid (kn ≤ xkc ∧ xkc ≤ maxLen ∧ Ints W1 xka xks) := Lib.hid ⟨by rw [← hkn]; exact HXJ.out.kl, HXJ.out.km, HXJ.out.kr⟩
        have HWF : Hid (wf64 xz ∧ wf64 xt ∧ wf64 xn) := Lib.hid ⟨HXJ.out.wz, HXJ.out.wt, HXJ.out.wn⟩
        clear hdn hkn hsz HXJ
        have A1 := At.new wr 33 #[.int .i64 xk, .int .i64 xz, .int .i64 xt, .int .i64 xn, .slice xda dn xdc, .slice xka kn xkc]
        have f1 := (Fr.refl No wr).alloc (.cells #[.int .i64 xk, .int .i64 xz, .int .i64 xt, .int .i64 xn, .slice xda dn xdc, .slice xka kn xkc] 33)
        have hO1 := HO.out.keep HM.out f1
        have HK1 := Lib.hid (HKS.out.tell f1)
        have HNF : Hid (¬ F wr.heap.size) := Lib.hid (HO.out.low HM.out _ (Nat.le_refl _))
        have HNL : Hid (¬ wr.heap.size = L ∧ ¬ wr.heap.size = G ∧ W1.heap.size ≤ wr.heap.size) := Lib.hid ⟨fun h => by have := HKS.out.la.lt; omega, fun h => by have := HKS.out.sa.lt; omega, HO.out.fr.size⟩
        obtain ⟨wv, hwv⟩ : ∃ x, wr.alloc (.cells #[.int .i64 xk, .int .i64 xz, .int .i64 xt, .int .i64 xn, .slice xda dn xdc, .slice xka kn xkc] 33) = x := ⟨_, rfl⟩
        rw [hwv] at A1 hO1 f1 HK1
        have HA1 := Lib.hid A1
        have HO1 := Lib.hid hO1
        have v0 := A1.cell 0
        have v1 := A1.cell 1
        have v3 := A1.cell 3
        have v4 := A1.cell 4
        have v5 := A1.cell 5
        simp at v0 v1 v3 v4 v5
        obtain ⟨ob, hob⟩ : ∃ x, wr.heap.size = x := ⟨_, rfl⟩
        rw [hob] at HA1 HNF HNL v0 v1 v3 v4 v5
        have HOB := Lib.hid hob
        have hd6 : m.done < 1000000 := by omega
        clear A1 f1 hO1 HO HKS
        by_cases k1 : xk = 1
        · as_aux_lemma =>
          subst k1
          have HC7 := Lib.hid (HO1.out.append HM.out hd6 HWF.out.1 (by have := HSZ.out.1; omega) (by rw [HDN.out]; exact HDL.out.1) HDL.out.2.1 HDL.out.2.2)
          rw [HDN.out] at HC7
          have hd7 : (appM m xz xd).done ≤ j + 1 := Nat.le_trans ((step_app m xz xd).d) (by omega)
          obtain ⟨E, hE⟩ : ∃ x, cmdR m (appErr m xz xd) = x := ⟨_, rfl⟩
          rw [hE] at HC7
          have HE := Lib.hid hE
          obtain ⟨m7, hm7⟩ : ∃ x, appM m xz xd = x := ⟨_, rfl⟩
          rw [hm7] at HC7 hd7
          have HM7 := Lib.hid hm7
          clear hE hm7
          go_wp2_with fail
          try rw [hwv]
          refine HC7.out.mono ?_
          rintro e w7 ⟨rfl, F7, hO7, hF7, f7⟩
          have HOD := Lib.hid (hO7.keep HM.out (Fr.refl No w7).drew)
          have HKD := Lib.hid ((HK1.out.keep f7 (fun _ h => h) hF7).tell (Fr.refl No w7).drew)
          have hA7 := HA1.out.keep f7 HNF.out
          have HAD : Hid (At w7.drew ob 33 #[.int .i64 1, .int .i64 xz, .int .i64 xt, .int .i64 xn, .slice xda dn xdc, .slice xka kn xkc]) := Lib.hid hA7
          have z1 : w7.drew.cell? ⟨ob, 1, none⟩ = some (.int .i64 xz) := hA7.cell 1
          have z4 : w7.drew.cell? ⟨ob, 4, none⟩ = some (.slice xda dn xdc) := hA7.cell 4
          have z0 : w7.drew.cell? ⟨W.heap.size, 0, none⟩ = some (.int .i64 (Z : Int)) := (HA0.out.keep hO7.fr (fun h => h)).cell 0
          clear hO7 HC7 hF7 f7 hA7 v0 v1 v3 v4 v5
          by_cases hz0 : xz < 0
          · have d2 : decide (0 ≤ xz) = false := by rw [decide_eq_false_iff_not]; omega
            have HR7 : Hid (KR m7 Z xs fs) := Lib.hid (by
              rw [← HM7.out]
              refine HKR.out.same (appM_zs fun h => ?_)
              have := (hasZ_iff.1 (appErr_ok h).2.1).1
              omega)
            clear z0 z4 hz0
            go_wp2_with fail
            refine wp_region_held_drew (S := fun w' => w'.cell? ⟨ob, 1, none⟩ = some (.int .i64 xz)) (by kernel_rfl) z1 (fun hHeld => ?_)
            refine take_drop (i := 0) (v := ?v0_1) rfl (by kernel_rfl) (by kernel_rfl) (by kernel_rfl) (fun _ _ _ h => h) (Or.inl ⟨by rfl, ?h0_1⟩) hHeld ?r0_1
            case h0_1 => (intro wS hSw; go_simp; all_goals (with_reducible rfl))
            simp only [Act.put, List.setIfInBounds_toArray, List.set_cons_zero, List.set_cons_succ]
            refine take_drop (i := 1) (v := ?v1_1) rfl (by kernel_rfl) (by kernel_rfl) (by kernel_rfl) (fun _ _ _ h => h) (Or.inl ⟨by rfl, ?h1_1⟩) hHeld ?r1_1
            case h1_1 => (intro wS hSw; go_simp; all_goals (with_reducible rfl))
            simp only [Act.put, List.setIfInBounds_toArray, List.set_cons_zero, List.set_cons_succ]
            refine take_drop (i := 2) (v := ?v2_1) rfl (by kernel_rfl) (by kernel_rfl) (by kernel_rfl) (fun _ _ _ h => h) (Or.inl ⟨by rfl, ?h2_1⟩) hHeld ?r2_1
            case h2_1 => (intro wS hSw; go_simp; all_goals (with_reducible rfl))
            simp only [Act.put, List.setIfInBounds_toArray, List.set_cons_zero, List.set_cons_succ]
            refine take_drop (i := 3) (v := ?v3_1) rfl (by kernel_rfl) (by kernel_rfl) (by kernel_rfl) (fun _ _ _ h => h) (Or.inl ⟨by rfl, ?h3_1⟩) hHeld ?r3_1
            case h3_1 => (intro wS hSw; go_simp; all_goals (with_reducible rfl))
            simp only [Act.put, List.setIfInBounds_toArray, List.set_cons_zero, List.set_cons_succ]
            refine take_drop (i := 4) (v := undef) rfl (by kernel_rfl) (by kernel_rfl) (by kernel_rfl) (fun _ _ _ h => h) (Or.inr ⟨by rfl, rfl⟩) hHeld ?_
            simp only [Act.put, List.setIfInBounds_toArray, List.set_cons_zero, List.set_cons_succ]
            refine take_drop (i := 5) (v := undef) rfl (by kernel_rfl) (by kernel_rfl) (by kernel_rfl) (fun _ _ _ h => h) (Or.inr ⟨by rfl, rfl⟩) hHeld ?_
            simp only [Act.put, List.setIfInBounds_toArray, List.set_cons_zero, List.set_cons_succ]
            refine take_drop (i := 6) (v := undef) rfl (by kernel_rfl) (by kernel_rfl) (by kernel_rfl) (fun _ _ _ h => h) (Or.inr ⟨by rfl, rfl⟩) hHeld ?_
            simp only [Act.put, List.setIfInBounds_toArray, List.set_cons_zero, List.set_cons_succ]
            refine take_drop (i := 7) (v := undef) rfl (by kernel_rfl) (by kernel_rfl) (by kernel_rfl) (fun _ _ _ h => h) (Or.inr ⟨by rfl, rfl⟩) hHeld ?_
            simp only [Act.put, List.setIfInBounds_toArray, List.set_cons_zero, List.set_cons_succ]
            refine take_drop (i := 8) (v := undef) rfl (by kernel_rfl) (by kernel_rfl) (by kernel_rfl) (fun _ _ _ h => h) (Or.inr ⟨by rfl, rfl⟩) hHeld ?_
            simp only [Act.put, List.setIfInBounds_toArray, List.set_cons_zero, List.set_cons_succ]
            refine take_drop (i := 9) (v := ?v9_1) rfl (by kernel_rfl) (by kernel_rfl) (by kernel_rfl) (fun _ _ _ h => h) (Or.inl ⟨by rfl, ?h9_1⟩) hHeld ?r9_1
            case h9_1 => (intro wS hSw; go_simp; all_goals (with_reducible rfl))
            simp only [Act.put, List.setIfInBounds_toArray, List.set_cons_zero, List.set_cons_succ]
            refine take_drop (i := 10) (v := ?v10_1) rfl (by kernel_rfl) (by kernel_rfl) (by kernel_rfl) (fun _ _ _ h => h) (Or.inl ⟨by rfl, ?h10_1⟩) hHeld ?r10_1
            case h10_1 => (intro wS hSw; go_simp; all_goals (with_reducible rfl))
            simp only [Act.put, List.setIfInBounds_toArray, List.set_cons_zero, List.set_cons_succ]
            refine take_drop (i := 11) (v := undef) rfl (by kernel_rfl) (by kernel_rfl) (by kernel_rfl) (fun _ _ _ h => h) (Or.inr ⟨by rfl, rfl⟩) hHeld ?_
            simp only [Act.put, List.setIfInBounds_toArray, List.set_cons_zero, List.set_cons_succ]
            refine take_drop (i := 12) (v := undef) rfl (by kernel_rfl) (by kernel_rfl) (by kernel_rfl) (fun _ _ _ h => h) (Or.inr ⟨by rfl, rfl⟩) hHeld ?_
            simp only [Act.put, List.setIfInBounds_toArray, List.set_cons_zero, List.set_cons_succ]
            refine take_drop (i := 13) (v := undef) rfl (by kernel_rfl) (by kernel_rfl) (by kernel_rfl) (fun _ _ _ h => h) (Or.inr ⟨by rfl, rfl⟩) hHeld ?_
            simp only [Act.put, List.setIfInBounds_toArray, List.set_cons_zero, List.set_cons_succ]
            refine take_drop (i := 14) (v := undef) rfl (by kernel_rfl) (by kernel_rfl) (by kernel_rfl) (fun _ _ _ h => h) (Or.inr ⟨by rfl, rfl⟩) hHeld ?_
            simp only [Act.put, List.setIfInBounds_toArray, List.set_cons_zero, List.set_cons_succ]
            refine take_drop (i := 15) (v := undef) rfl (by kernel_rfl) (by kernel_rfl) (by kernel_rfl) (fun _ _ _ h => h) (Or.inr ⟨by rfl, rfl⟩) hHeld ?_
            simp only [Act.put, List.setIfInBounds_toArray, List.set_cons_zero, List.set_cons_succ]
            refine take_drop (i := 16) (v := undef) rfl (by kernel_rfl) (by kernel_rfl) (by kernel_rfl) (fun _ _ _ h => h) (Or.inr ⟨by rfl, rfl⟩) hHeld ?_
            simp only [Act.put, List.setIfInBounds_toArray, List.set_cons_zero, List.set_cons_succ]
            refine take_drop (i := 17) (v := undef) rfl (by kernel_rfl) (by kernel_rfl) (by kernel_rfl) (fun _ _ _ h => h) (Or.inr ⟨by rfl, rfl⟩) hHeld ?_
            simp only [Act.put, List.setIfInBounds_toArray, List.set_cons_zero, List.set_cons_succ]
            refine take_drop (i := 18) (v := undef) rfl (by kernel_rfl) (by kernel_rfl) (by kernel_rfl) (fun _ _ _ h => h) (Or.inr ⟨by rfl, rfl⟩) hHeld ?_
            simp only [Act.put, List.setIfInBounds_toArray, List.set_cons_zero, List.set_cons_succ]
            refine take_drop (i := 19) (v := undef) rfl (by kernel_rfl) (by kernel_rfl) (by kernel_rfl) (fun _ _ _ h => h) (Or.inr ⟨by rfl, rfl⟩) hHeld ?_
            simp only [Act.put, List.setIfInBounds_toArray, List.set_cons_zero, List.set_cons_succ]
            refine take_drop (i := 20) (v := undef) rfl (by kernel_rfl) (by kernel_rfl) (by kernel_rfl) (fun _ _ _ h => h) (Or.inr ⟨by rfl, rfl⟩) hHeld ?_
            simp only [Act.put, List.setIfInBounds_toArray, List.set_cons_zero, List.set_cons_succ]
            refine take_drop (i := 21) (v := undef) rfl (by kernel_rfl) (by kernel_rfl) (by kernel_rfl) (fun _ _ _ h => h) (Or.inr ⟨by rfl, rfl⟩) hHeld ?_
            simp only [Act.put, List.setIfInBounds_toArray, List.set_cons_zero, List.set_cons_succ]
            refine take_drop (i := 22) (v := undef) rfl (by kernel_rfl) (by kernel_rfl) (by kernel_rfl) (fun _ _ _ h => h) (Or.inr ⟨by rfl, rfl⟩) hHeld ?_
            simp only [Act.put, List.setIfInBounds_toArray, List.set_cons_zero, List.set_cons_succ]
            refine take_drop (i := 23) (v := undef) rfl (by kernel_rfl) (by kernel_rfl) (by kernel_rfl) (fun _ _ _ h => h) (Or.inr ⟨by rfl, rfl⟩) hHeld ?_
            simp only [Act.put, List.setIfInBounds_toArray, List.set_cons_zero, List.set_cons_succ]
            refine take_drop (i := 24) (v := undef) rfl (by kernel_rfl) (by kernel_rfl) (by kernel_rfl) (fun _ _ _ h => h) (Or.inr ⟨by rfl, rfl⟩) hHeld ?_
            simp only [Act.put, List.setIfInBounds_toArray, List.set_cons_zero, List.set_cons_succ]
            refine take_drop (i := 25) (v := undef) rfl (by kernel_rfl) (by kernel_rfl) (by kernel_rfl) (fun _ _ _ h => h) (Or.inr ⟨by rfl, rfl⟩) hHeld ?_
            simp only [Act.put, List.setIfInBounds_toArray, List.set_cons_zero, List.set_cons_succ]
            refine take_drop (i := 26) (v := ?v26_1) rfl (by kernel_rfl) (by kernel_rfl) (by kernel_rfl) (fun _ _ _ h => h) (Or.inl ⟨by rfl, ?h26_1⟩) hHeld ?r26_1
            case h26_1 => (intro wS hSw; go_simp; all_goals (with_reducible rfl))
            simp only [Act.put, List.setIfInBounds_toArray, List.set_cons_zero, List.set_cons_succ]
            refine take_drop (i := 27) (v := ?v27_1) rfl (by kernel_rfl) (by kernel_rfl) (by kernel_rfl) (fun _ _ _ h => h) (Or.inl ⟨by rfl, ?h27_1⟩) hHeld ?r27_1
            case h27_1 => (intro wS hSw; go_simp; all_goals (with_reducible rfl))
            simp only [Act.put, List.setIfInBounds_toArray, List.set_cons_zero, List.set_cons_succ]
            refine take_drop (i := 28) (v := undef) rfl (by kernel_rfl) (by kernel_rfl) (by kernel_rfl) (fun _ _ _ h => h) (Or.inr ⟨by rfl, rfl⟩) hHeld ?_
            simp only [Act.put, List.setIfInBounds_toArray, List.set_cons_zero, List.set_cons_succ]
            refine take_drop (i := 29) (v := undef) rfl (by kernel_rfl) (by kernel_rfl) (by kernel_rfl) (fun _ _ _ h => h) (Or.inr ⟨by rfl, rfl⟩) hHeld ?_
            simp only [Act.put, List.setIfInBounds_toArray, List.set_cons_zero, List.set_cons_succ]
            refine take_drop (i := 30) (v := undef) rfl (by kernel_rfl) (by kernel_rfl) (by kernel_rfl) (fun _ _ _ h => h) (Or.inr ⟨by rfl, rfl⟩) hHeld ?_
            simp only [Act.put, List.setIfInBounds_toArray, List.set_cons_zero, List.set_cons_succ]
            refine take_drop (i := 31) (v := undef) rfl (by kernel_rfl) (by kernel_rfl) (by kernel_rfl) (fun _ _ _ h => h) (Or.inr ⟨by rfl, rfl⟩) hHeld ?_
            simp only [Act.put, List.setIfInBounds_toArray, List.set_cons_zero, List.set_cons_succ]
            refine take_drop (i := 32) (v := undef) rfl (by kernel_rfl) (by kernel_rfl) (by kernel_rfl) (fun _ _ _ h => h) (Or.inr ⟨by rfl, rfl⟩) hHeld ?_
            simp only [Act.put, List.setIfInBounds_toArray, List.set_cons_zero, List.set_cons_succ]
            refine take_drop (i := 33) (v := undef) rfl (by kernel_rfl) (by kernel_rfl) (by kernel_rfl) (fun _ _ _ h => h) (Or.inr ⟨by rfl, rfl⟩) hHeld ?_
            simp only [Act.put, List.setIfInBounds_toArray, List.set_cons_zero, List.set_cons_succ]
            refine take_drop (i := 34) (v := ?v34_1) rfl (by kernel_rfl) (by kernel_rfl) (by kernel_rfl) (fun _ _ _ h => h) (Or.inl ⟨by rfl, ?h34_1⟩) hHeld ?r34_1
            case h34_1 => (intro wS hSw; go_simp; all_goals (with_reducible rfl))
            simp only [Act.put, List.setIfInBounds_toArray, List.set_cons_zero, List.set_cons_succ]
            refine wpAnyH_done (by kernel_rfl) ?_ _
            clear hHeld z1
            go_wp2_with fail
            go_roundw
            case rel => exact ⟨j + 1, F7, m7, xs, fs, X, by simp, by omega, HOD.out, HKD.out, HR7.out, hd7⟩
            case measure => simp [intOf]; omega
          obtain ⟨q, rfl⟩ : ∃ q : Nat, xz = (q : Int) := ⟨xz.toNat, by omega⟩
          clear hz0
          by_cases hq : q < Z
          · obtain ⟨zL, _⟩ := HKD.out.cellL hq
            obtain ⟨ta, hta⟩ : ∃ x, (xs.getD q tx0).a = x := ⟨_, rfl⟩
            obtain ⟨tb, htb⟩ : ∃ x, (xs.getD q tx0).b = x := ⟨_, rfl⟩
            obtain ⟨tc, htc⟩ : ∃ x, (xs.getD q tx0).c = x := ⟨_, rfl⟩
            rw [hta, htb, htc] at zL
            obtain ⟨AL, hal⟩ : ∃ x, tb.length = x := ⟨_, rfl⟩
            rw [hal] at zL
            have HAL := Lib.hid hal
            have HTA := Lib.hid hta
            have HTB := Lib.hid htb
            have HTC := Lib.hid htc
            have HZB : Hid ((zoneM m (q : Int)).b = tb) := Lib.hid (by rw [zoneM_nat, ← htb, HKR.out.b q hq]; rfl)
            have d2 : decide ((0 : Int) ≤ (q : Int)) = true := by rw [decide_eq_true_eq]; omega
            have d3 : decide ((q : Int) < (Z : Int)) = true := by rw [decide_eq_true_eq]; omega
            have d4 : decide (q < Z) = true := by rw [decide_eq_true_eq]; omega
            have hqm : hasZ m (q : Int) = true := hasZ_iff.2 ⟨by omega, by rw [HKR.out.z]; omega⟩
            have hwr : IntKind.i64.wrap ((AL : Int) + (dn : Int)) = (AL : Int) + (dn : Int) := by
              have h3 := (zoneM_ok HO1.out.wf (q : Int)).l
              rw [HZB.out, HAL.out] at h3
              have h4 := HO1.out.wf.s64
              have h5 := HSZ.out.1
              rw [HDN.out] at h5
              rw [IntKind.wrap_i64]
              omega
            clear hal hta htb htc
            have HPT0 : Hid (∀ w, OwnZ D W1 w d F7 m7 → Calls Try.prog 12 #[.pointer (some ⟨d, 0, none⟩), .int .i64 (q : Int)] w (ToldZ D W1 w d F7 m7 (.int .i64 (ptrM m7 (q : Int))))) := Lib.hid fun w h => h.pointer HM.out HWF.out.1
            by_cases h0 : appErr m (q : Int) xd = 0
            · have HAPP : Hid (appErr m (q : Int) xd = 0 ∨ xd = []) := Lib.hid (.inl h0)
              have ep : ptrM m7 (q : Int) = (AL : Int) + (dn : Int) := by
                have e1 : m7.zs = (setZ m (q : Int) (appZ m (q : Int) xd)).zs := by rw [← HM7.out]; unfold appM; rw [if_pos h0, pow_zs]
                have e2 : hasZ m7 (q : Int) = true := hasZ_iff.2 ⟨by omega, by rw [e1]; show _ < (m.zs.set _ _).length; rw [List.length_set]; exact (hasZ_iff.1 hqm).2⟩
                have e3 : (zoneM m7 (q : Int)).b = tb ++ xd := by
                  rw [zoneM_nat, e1, zs_set m q q _ (by rw [HKR.out.z]; exact hq), if_pos rfl]
                  show (zoneM m (q : Int)).b ++ xd = _
                  rw [HZB.out]
                unfold ptrM
                rw [if_pos e2, e3, List.length_append, HAL.out, HDN.out]
                omega
              have HPT : Hid (∀ w, OwnZ D W1 w d F7 m7 → Calls Try.prog 12 #[.pointer (some ⟨d, 0, none⟩), .int .i64 (q : Int)] w (ToldZ D W1 w d F7 m7 (.int .i64 ((AL : Int) + (dn : Int))))) := Lib.hid fun w h => by have := HPT0.out w h; rwa [ep] at this
              have hcm : E = 0 ∨ E = 74 := by
                rw [← HE.out, cmdR_zero h0]
                cases cmdM m
                · exact .inr rfl
                · exact .inl rfl
              clear h0 ep hqm
              rcases hcm with rfl | rfl
              · go_wp2_with fail
                as_aux_lemma =>
                  refine wp_region_held_drew (S := fun w' => w'.cell? ⟨ob, 1, none⟩ = some (.int .i64 (q : Int)) ∧ w'.cell? ⟨W.heap.size, 0, none⟩ = some (.int .i64 (Z : Int)) ∧ w'.cell? ⟨ob, 4, none⟩ = some (.slice xda dn xdc) ∧ w'.cell? ⟨L, q, none⟩ = some (.slice ta AL tc)) (by kernel_rfl) ⟨z1, z0, z4, zL⟩ (fun hHeld => ?_)
                  refine take_drop (i := 0) (v := ?v0_21) rfl (by kernel_rfl) (by kernel_rfl) (by kernel_rfl) (fun _ _ _ h => h) (Or.inl ⟨by rfl, ?h0_21⟩) hHeld ?r0_21
                  case h0_21 => (intro wS hSw; obtain ⟨s1, s2, s3, s4⟩ := hSw; go_simp; all_goals (with_reducible rfl))
                  simp only [Act.put, List.setIfInBounds_toArray, List.set_cons_zero, List.set_cons_succ]
                  refine take_drop (i := 1) (v := ?v1_21) rfl (by kernel_rfl) (by kernel_rfl) (by kernel_rfl) (fun _ _ _ h => h) (Or.inl ⟨by rfl, ?h1_21⟩) hHeld ?r1_21
                  case h1_21 => (intro wS hSw; obtain ⟨s1, s2, s3, s4⟩ := hSw; go_simp; all_goals (with_reducible rfl))
                  simp only [Act.put, List.setIfInBounds_toArray, List.set_cons_zero, List.set_cons_succ]
                  refine take_drop (i := 2) (v := ?v2_21) rfl (by kernel_rfl) (by kernel_rfl) (by kernel_rfl) (fun _ _ _ h => h) (Or.inl ⟨by rfl, ?h2_21⟩) hHeld ?r2_21
                  case h2_21 => (intro wS hSw; obtain ⟨s1, s2, s3, s4⟩ := hSw; go_simp; all_goals (with_reducible rfl))
                  simp only [Act.put, List.setIfInBounds_toArray, List.set_cons_zero, List.set_cons_succ]
                  refine take_drop (i := 3) (v := ?v3_21) rfl (by kernel_rfl) (by kernel_rfl) (by kernel_rfl) (fun _ _ _ h => h) (Or.inl ⟨by rfl, ?h3_21⟩) hHeld ?r3_21
                  case h3_21 => (intro wS hSw; obtain ⟨s1, s2, s3, s4⟩ := hSw; go_simp; all_goals (with_reducible rfl))
                  simp only [Act.put, List.setIfInBounds_toArray, List.set_cons_zero, List.set_cons_succ]
                  refine take_drop (i := 4) (v := ?v4_21) rfl (by kernel_rfl) (by kernel_rfl) (by kernel_rfl) (fun _ _ _ h => h) (Or.inl ⟨by rfl, ?h4_21⟩) hHeld ?r4_21
                  case h4_21 => (intro wS hSw; obtain ⟨s1, s2, s3, s4⟩ := hSw; go_simp; all_goals (with_reducible rfl))
                  simp only [Act.put, List.setIfInBounds_toArray, List.set_cons_zero, List.set_cons_succ]
                  refine take_drop (i := 5) (v := ?v5_21) rfl (by kernel_rfl) (by kernel_rfl) (by kernel_rfl) (fun _ _ _ h => h) (Or.inl ⟨by rfl, ?h5_21⟩) hHeld ?r5_21
                  case h5_21 => (intro wS hSw; obtain ⟨s1, s2, s3, s4⟩ := hSw; go_simp; all_goals (with_reducible rfl))
                  simp only [Act.put, List.setIfInBounds_toArray, List.set_cons_zero, List.set_cons_succ]
                  refine take_drop (i := 6) (v := ?v6_21) rfl (by kernel_rfl) (by kernel_rfl) (by kernel_rfl) (fun _ _ _ h => h) (Or.inl ⟨by rfl, ?h6_21⟩) hHeld ?r6_21
                  case h6_21 => (intro wS hSw; obtain ⟨s1, s2, s3, s4⟩ := hSw; go_simp; all_goals (with_reducible rfl))
                  simp only [Act.put, List.setIfInBounds_toArray, List.set_cons_zero, List.set_cons_succ]
                  refine take_drop (i := 7) (v := ?v7_21) rfl (by kernel_rfl) (by kernel_rfl) (by kernel_rfl) (fun _ _ _ h => h) (Or.inl ⟨by rfl, ?h7_21⟩) hHeld ?r7_21
                  case h7_21 => (intro wS hSw; obtain ⟨s1, s2, s3, s4⟩ := hSw; go_simp; all_goals (with_reducible rfl))
                  simp only [Act.put, List.setIfInBounds_toArray, List.set_cons_zero, List.set_cons_succ]
                  refine take_drop (i := 8) (v := ?v8_21) rfl (by kernel_rfl) (by kernel_rfl) (by kernel_rfl) (fun _ _ _ h => h) (Or.inl ⟨by rfl, ?h8_21⟩) hHeld ?r8_21
                  case h8_21 => (intro wS hSw; obtain ⟨s1, s2, s3, s4⟩ := hSw; go_simp; all_goals (with_reducible rfl))
                  simp only [Act.put, List.setIfInBounds_toArray, List.set_cons_zero, List.set_cons_succ]
                  refine take_drop (i := 9) (v := ?v9_21) rfl (by kernel_rfl) (by kernel_rfl) (by kernel_rfl) (fun _ _ _ h => h) (Or.inl ⟨by rfl, ?h9_21⟩) hHeld ?r9_21
                  case h9_21 => (intro wS hSw; obtain ⟨s1, s2, s3, s4⟩ := hSw; go_simp; all_goals (with_reducible rfl))
                  simp only [Act.put, List.setIfInBounds_toArray, List.set_cons_zero, List.set_cons_succ]
                  refine take_drop (i := 10) (v := ?v10_21) rfl (by kernel_rfl) (by kernel_rfl) (by kernel_rfl) (fun _ _ _ h => h) (Or.inl ⟨by rfl, ?h10_21⟩) hHeld ?r10_21
                  case h10_21 => (intro wS hSw; obtain ⟨s1, s2, s3, s4⟩ := hSw; go_simp; all_goals (with_reducible rfl))
                  simp only [Act.put, List.setIfInBounds_toArray, List.set_cons_zero, List.set_cons_succ]
                  refine take_drop (i := 11) (v := ?v11_21) rfl (by kernel_rfl) (by kernel_rfl) (by kernel_rfl) (fun _ _ _ h => h) (Or.inl ⟨by rfl, ?h11_21⟩) hHeld ?r11_21
                  case h11_21 => (intro wS hSw; obtain ⟨s1, s2, s3, s4⟩ := hSw; go_simp; all_goals (with_reducible rfl))
                  simp only [Act.put, List.setIfInBounds_toArray, List.set_cons_zero, List.set_cons_succ]
                  refine take_drop (i := 12) (v := ?v12_21) rfl (by kernel_rfl) (by kernel_rfl) (by kernel_rfl) (fun _ _ _ h => h) (Or.inl ⟨by rfl, ?h12_21⟩) hHeld ?r12_21
                  case h12_21 => (intro wS hSw; obtain ⟨s1, s2, s3, s4⟩ := hSw; go_simp; all_goals (with_reducible rfl))
                  simp only [Act.put, List.setIfInBounds_toArray, List.set_cons_zero, List.set_cons_succ]
                  refine take_drop (i := 13) (v := ?v13_21) rfl (by kernel_rfl) (by kernel_rfl) (by kernel_rfl) (fun _ _ _ h => h) (Or.inl ⟨by rfl, ?h13_21⟩) hHeld ?r13_21
                  case h13_21 => (intro wS hSw; obtain ⟨s1, s2, s3, s4⟩ := hSw; go_simp; all_goals (with_reducible rfl))
                  simp only [Act.put, List.setIfInBounds_toArray, List.set_cons_zero, List.set_cons_succ]
                  refine take_drop (i := 15) (v := ?v15_21) rfl (by kernel_rfl) (by kernel_rfl) (by kernel_rfl) (fun _ _ _ h => h) (Or.inl ⟨by rfl, ?h15_21⟩) hHeld ?r15_21
                  case h15_21 => (intro wS hSw; obtain ⟨s1, s2, s3, s4⟩ := hSw; go_simp; all_goals (with_reducible rfl))
                  simp only [Act.put, List.setIfInBounds_toArray, List.set_cons_zero, List.set_cons_succ]
                  refine take_drop (i := 16) (v := ?v16_21) rfl (by kernel_rfl) (by kernel_rfl) (by kernel_rfl) (fun _ _ _ h => h) (Or.inl ⟨by rfl, ?h16_21⟩) hHeld ?r16_21
                  case h16_21 => (intro wS hSw; obtain ⟨s1, s2, s3, s4⟩ := hSw; go_simp; all_goals (with_reducible rfl))
                  simp only [Act.put, List.setIfInBounds_toArray, List.set_cons_zero, List.set_cons_succ]
                  refine take_drop (i := 17) (v := ?v17_21) rfl (by kernel_rfl) (by kernel_rfl) (by kernel_rfl) (fun _ _ _ h => h) (Or.inl ⟨by rfl, ?h17_21⟩) hHeld ?r17_21
                  case h17_21 => (intro wS hSw; obtain ⟨s1, s2, s3, s4⟩ := hSw; go_simp; all_goals (with_reducible rfl))
                  simp only [Act.put, List.setIfInBounds_toArray, List.set_cons_zero, List.set_cons_succ]
                  refine take_drop (i := 18) (v := ?v18_21) rfl (by kernel_rfl) (by kernel_rfl) (by kernel_rfl) (fun _ _ _ h => h) (Or.inl ⟨by rfl, ?h18_21⟩) hHeld ?r18_21
                  case h18_21 => (intro wS hSw; obtain ⟨s1, s2, s3, s4⟩ := hSw; go_simp; all_goals (with_reducible rfl))
                  simp only [Act.put, List.setIfInBounds_toArray, List.set_cons_zero, List.set_cons_succ]
                  refine take_drop (i := 19) (v := ?v19_21) rfl (by kernel_rfl) (by kernel_rfl) (by kernel_rfl) (fun _ _ _ h => h) (Or.inl ⟨by rfl, ?h19_21⟩) hHeld ?r19_21
                  case h19_21 => (intro wS hSw; obtain ⟨s1, s2, s3, s4⟩ := hSw; go_simp; all_goals (with_reducible rfl))
                  simp only [Act.put, List.setIfInBounds_toArray, List.set_cons_zero, List.set_cons_succ]
                  refine take_drop (i := 20) (v := ?v20_21) rfl (by kernel_rfl) (by kernel_rfl) (by kernel_rfl) (fun _ _ _ h => h) (Or.inl ⟨by rfl, ?h20_21⟩) hHeld ?r20_21
                  case h20_21 => (intro wS hSw; obtain ⟨s1, s2, s3, s4⟩ := hSw; go_simp; all_goals (with_reducible rfl))
                  simp only [Act.put, List.setIfInBounds_toArray, List.set_cons_zero, List.set_cons_succ]
                  refine take_drop (i := 21) (v := ?v21_21) rfl (by kernel_rfl) (by kernel_rfl) (by kernel_rfl) (fun _ _ _ h => h) (Or.inl ⟨by rfl, ?h21_21⟩) hHeld ?r21_21
                  case h21_21 => (intro wS hSw; obtain ⟨s1, s2, s3, s4⟩ := hSw; go_simp; all_goals (with_reducible rfl))
                  simp only [Act.put, List.setIfInBounds_toArray, List.set_cons_zero, List.set_cons_succ]
                  refine take_drop (i := 22) (v := ?v22_21) rfl (by kernel_rfl) (by kernel_rfl) (by kernel_rfl) (fun _ _ _ h => h) (Or.inl ⟨by rfl, ?h22_21⟩) hHeld ?r22_21
                  case h22_21 => (intro wS hSw; obtain ⟨s1, s2, s3, s4⟩ := hSw; go_simp; all_goals (with_reducible rfl))
                  simp only [Act.put, List.setIfInBounds_toArray, List.set_cons_zero, List.set_cons_succ]
                  refine take_drop (i := 23) (v := ?v23_21) rfl (by kernel_rfl) (by kernel_rfl) (by kernel_rfl) (fun _ _ _ h => h) (Or.inl ⟨by rfl, ?h23_21⟩) hHeld ?r23_21
                  case h23_21 => (intro wS hSw; obtain ⟨s1, s2, s3, s4⟩ := hSw; go_simp; all_goals (with_reducible rfl))
                  simp only [Act.put, List.setIfInBounds_toArray, List.set_cons_zero, List.set_cons_succ]
                  refine take_drop (i := 24) (v := ?v24_21) rfl (by kernel_rfl) (by kernel_rfl) (by kernel_rfl) (fun _ _ _ h => h) (Or.inl ⟨by rfl, ?h24_21⟩) hHeld ?r24_21
                  case h24_21 => (intro wS hSw; obtain ⟨s1, s2, s3, s4⟩ := hSw; go_simp; all_goals (with_reducible rfl))
                  simp only [Act.put, List.setIfInBounds_toArray, List.set_cons_zero, List.set_cons_succ]
                  refine wpAnyH_ready (rs := [14]) (by kernel_rfl) (by simp) ?_
                  refine do_drop (i := 14) rfl (fun K hK => ?_) AllReadyH.nil
                  go_simp
                  refine (HPT.out _ HOD.out).mono ?_
                  rintro e w8 ⟨rfl, hO8, f8⟩
                  have y1 := f8.cell z1 (fun h => h)
                  have y0 := f8.cell z0 (fun h => h)
                  have y4 := f8.cell z4 (fun h => h)
                  have yL := f8.cell zL (fun h => h)
                  have HO8 := Lib.hid hO8
                  have HK8 := Lib.hid (HKD.out.tell f8)
                  have HA8 := Lib.hid (HAD.out.keep f8 (fun h => h))
                  clear hO8 f8
                  refine hK.out _ _ ⟨y1, y0, y4, yL⟩ ?_
                  clear hK K
                  try simp only [Act.put, List.setIfInBounds_toArray, List.set_cons_zero, List.set_cons_succ]
                  have hS8 := And.intro y1 (And.intro y0 (And.intro y4 yL))
                  clear hHeld
                  refine take_drop (i := 25) (v := ?v25_21) rfl (by kernel_rfl) (by kernel_rfl) (by kernel_rfl) (fun _ _ _ h => h) (Or.inl ⟨by rfl, ?h25_21⟩) hS8 ?r25_21
                  case h25_21 => (intro wS hSw; obtain ⟨s1, s2, s3, s4⟩ := hSw; go_simp; all_goals (with_reducible rfl))
                  simp only [Act.put, List.setIfInBounds_toArray, List.set_cons_zero, List.set_cons_succ]
                  refine take_drop (i := 26) (v := ?v26_21) rfl (by kernel_rfl) (by kernel_rfl) (by kernel_rfl) (fun _ _ _ h => h) (Or.inl ⟨by rfl, ?h26_21⟩) hS8 ?r26_21
                  case h26_21 => (intro wS hSw; obtain ⟨s1, s2, s3, s4⟩ := hSw; go_simp; all_goals (with_reducible rfl))
                  simp only [Act.put, List.setIfInBounds_toArray, List.set_cons_zero, List.set_cons_succ]
                  refine take_drop (i := 27) (v := ?v27_21) rfl (by kernel_rfl) (by kernel_rfl) (by kernel_rfl) (fun _ _ _ h => h) (Or.inl ⟨by rfl, ?h27_21⟩) hS8 ?r27_21
                  case h27_21 => (intro wS hSw; obtain ⟨s1, s2, s3, s4⟩ := hSw; go_simp; all_goals (with_reducible rfl))
                  simp only [Act.put, List.setIfInBounds_toArray, List.set_cons_zero, List.set_cons_succ]
                  refine take_drop (i := 28) (v := ?v28_21) rfl (by kernel_rfl) (by kernel_rfl) (by kernel_rfl) (fun _ _ _ h => h) (Or.inl ⟨by rfl, ?h28_21⟩) hS8 ?r28_21
                  case h28_21 => (intro wS hSw; obtain ⟨s1, s2, s3, s4⟩ := hSw; go_simp; all_goals (with_reducible rfl))
                  simp only [Act.put, List.setIfInBounds_toArray, List.set_cons_zero, List.set_cons_succ]
                  refine take_drop (i := 29) (v := ?v29_21) rfl (by kernel_rfl) (by kernel_rfl) (by kernel_rfl) (fun _ _ _ h => h) (Or.inl ⟨by rfl, ?h29_21⟩) hS8 ?r29_21
                  case h29_21 => (intro wS hSw; obtain ⟨s1, s2, s3, s4⟩ := hSw; go_simp; all_goals (with_reducible rfl))
                  simp only [Act.put, List.setIfInBounds_toArray, List.set_cons_zero, List.set_cons_succ]
                  refine take_drop (i := 30) (v := ?v30_21) rfl (by kernel_rfl) (by kernel_rfl) (by kernel_rfl) (fun _ _ _ h => h) (Or.inl ⟨by rfl, ?h30_21⟩) hS8 ?r30_21
                  case h30_21 => (intro wS hSw; obtain ⟨s1, s2, s3, s4⟩ := hSw; go_simp; all_goals (with_reducible rfl))
                  simp only [Act.put, List.setIfInBounds_toArray, List.set_cons_zero, List.set_cons_succ]
                  refine take_drop (i := 31) (v := undef) rfl (by kernel_rfl) (by kernel_rfl) (by kernel_rfl) (fun _ _ _ h => h) (Or.inr ⟨by rfl, rfl⟩) hS8 ?_
                  simp only [Act.put, List.setIfInBounds_toArray, List.set_cons_zero, List.set_cons_succ]
                  refine take_drop (i := 32) (v := undef) rfl (by kernel_rfl) (by kernel_rfl) (by kernel_rfl) (fun _ _ _ h => h) (Or.inr ⟨by rfl, rfl⟩) hS8 ?_
                  simp only [Act.put, List.setIfInBounds_toArray, List.set_cons_zero, List.set_cons_succ]
                  refine take_drop (i := 33) (v := ?v33_21) rfl (by kernel_rfl) (by kernel_rfl) (by kernel_rfl) (fun _ _ _ h => h) (Or.inl ⟨by rfl, ?h33_21⟩) hS8 ?r33_21
                  case h33_21 => (intro wS hSw; obtain ⟨s1, s2, s3, s4⟩ := hSw; go_simp; all_goals (with_reducible rfl))
                  simp only [Act.put, List.setIfInBounds_toArray, List.set_cons_zero, List.set_cons_succ]
                  refine take_drop (i := 34) (v := ?v34_21) rfl (by kernel_rfl) (by kernel_rfl) (by kernel_rfl) (fun _ _ _ h => h) (Or.inl ⟨by rfl, ?h34_21⟩) hS8 ?r34_21
                  case h34_21 => (intro wS hSw; obtain ⟨s1, s2, s3, s4⟩ := hSw; go_simp; all_goals (with_reducible rfl))
                  simp only [Act.put, List.setIfInBounds_toArray, List.set_cons_zero, List.set_cons_succ]
                  refine wpAnyH_done (by kernel_rfl) ?_ _
                  clear hS8 z0 z1 z4 zL y0 y1 y4 yL
                  go_wp2_with fail
                  have hta := HTA.out
                  have htb := HTB.out
                  have htc := HTC.out
                  have hm7 := HM7.out
                  have gL8 := (HK8.out.cellL hq).2
                  have cL8 := (HK8.out.cellL hq).1
                  rw [hta, htb, htc, HAL.out] at cL8
                  have v1 : w8.drew.cell? ⟨ob, 1, none⟩ = some (.int .i64 (q : Int)) := HA8.out.cell 1
                  have v4 : w8.drew.cell? ⟨ob, 4, none⟩ = some (.slice xda dn xdc) := HA8.out.cell 4
                  have cL8d := cL8
                  have hel := HK8.out.el q hq
                  rw [hta, htb, htc] at hel
                  obtain ⟨hel1, hel2, hel3⟩ := hel
                  rw [HAL.out] at hel1
                  have hcut := cut_own ta AL tc hel1
                  obtain ⟨a9, c9, w9, hrun, h9a, h9b, h9c, f9⟩ := grow_bytes w8.drew ta tb (hel3.keep (Fr.refl No w8).drew (fun _ _ h => h)) xda xdc xd ((In.of_rd HDL.out.2.2).keep (HO8.out.fr.drew) (fun _ _ h => h)) (by rw [HAL.out, HDN.out]; have h3 := (zoneM_ok HO1.out.wf (q : Int)).l; have h4 := HO1.out.wf.s64; rw [HZB.out, HAL.out] at h3; have := HSZ.out.1; rw [HDN.out] at this; omega)
                  rw [HAL.out, HDN.out] at hrun
                  obtain ⟨n9, hn9⟩ : ∃ x, (tb ++ xd).length = x := ⟨_, rfl⟩
                  rw [hn9] at hrun h9a
                  have HRUN := Lib.hid hrun
                  have hK9 := HK8.out.tell (((Fr.refl No w8).drew).trans f9)
                  obtain ⟨cL9, gL9⟩ := hK9.cellL hq
                  rw [hta, htb, htc, HAL.out] at cL9
                  have hs10 := hK9.setL (X' := Gr X w8.drew w9) hq ⟨a9, c9, tb ++ xd⟩ (by show (tb ++ xd).length ≤ c9; rw [hn9]; exact h9a) h9b h9c (fun _ h => .inl h) (fun k hk => hk.elim (hK9.hi k) (fun h => h.2)) (fun k hk => hk.elim (hK9.ap k) (fun h => ⟨HO8.out.low HM.out k h.1, fun e => by have := HK8.out.la.lt; rw [← e] at this; exact absurd (show w8.heap.size ≤ k from h.1) (by omega), fun e => by have := HK8.out.sa.lt; rw [← e] at this; exact absurd (show w8.heap.size ≤ k from h.1) (by omega)⟩))
                  rw [show (⟨a9, c9, tb ++ xd⟩ : Tx).b.length = n9 from hn9] at hs10
                  have HO10 := Lib.hid ((HO8.out.keep HM.out (((Fr.refl No w8).drew).trans f9)).keepK HM.out hs10.2 (fun k hk e => hK9.nl ((show k = L from e) ▸ hk)) (fun k e => by rw [show k = L from e]; exact hK9.lw))
                  have HK10 := Lib.hid hs10.1
                  have v19 := f9.cell (p := ⟨ob, 1, none⟩) v1 (fun h => h)
                  have v49 := f9.cell (p := ⟨ob, 4, none⟩) v4 (fun h => h)
                  have v1s := hs10.2.cell v19 (fun e => HNL.out.1 e)
                  have v4s := hs10.2.cell v49 (fun e => HNL.out.1 e)
                  have HR10 := Lib.hid (HKR.out.app hq xd ⟨a9, c9, tb ++ xd⟩ (by show tb ++ xd = _; rw [htb]) HAPP.out)
                  rw [hm7] at HR10
                  clear hta htb htc hm7
                  clear hrun hK9 hs10 h9a h9b h9c f9 hel1 hel2 hel3 hn9
                  refine wp_region_held_drew (S := fun w' => w'.cell? ⟨ob, 1, none⟩ = some (.int .i64 (q : Int)) ∧ w'.cell? ⟨ob, 4, none⟩ = some (.slice xda dn xdc)) (by kernel_rfl) ⟨v1, v4⟩ (fun hHeld => ?_)
                  refine take_drop (i := 0) (v := ?v0_4) rfl (by kernel_rfl) (by kernel_rfl) (by kernel_rfl) (fun _ _ _ h => h) (Or.inl ⟨by rfl, ?h0_4⟩) hHeld ?r0_4
                  case h0_4 => (intro wS hSw; obtain ⟨s1, s2⟩ := hSw; go_simp; all_goals (with_reducible rfl))
                  simp only [Act.put, List.setIfInBounds_toArray, List.set_cons_zero, List.set_cons_succ]
                  refine take_drop (i := 1) (v := ?v1_4) rfl (by kernel_rfl) (by kernel_rfl) (by kernel_rfl) (fun _ _ _ h => h) (Or.inl ⟨by rfl, ?h1_4⟩) hHeld ?r1_4
                  case h1_4 => (intro wS hSw; obtain ⟨s1, s2⟩ := hSw; go_simp; all_goals (with_reducible rfl))
                  simp only [Act.put, List.setIfInBounds_toArray, List.set_cons_zero, List.set_cons_succ]
                  refine take_drop (i := 2) (v := ?v2_4) rfl (by kernel_rfl) (by kernel_rfl) (by kernel_rfl) (fun _ _ _ h => h) (Or.inl ⟨by rfl, ?h2_4⟩) hHeld ?r2_4
                  case h2_4 => (intro wS hSw; obtain ⟨s1, s2⟩ := hSw; go_simp; all_goals (with_reducible rfl))
                  simp only [Act.put, List.setIfInBounds_toArray, List.set_cons_zero, List.set_cons_succ]
                  refine take_drop (i := 3) (v := ?v3_4) rfl (by kernel_rfl) (by kernel_rfl) (by kernel_rfl) (fun _ _ _ h => h) (Or.inl ⟨by rfl, ?h3_4⟩) hHeld ?r3_4
                  case h3_4 => (intro wS hSw; obtain ⟨s1, s2⟩ := hSw; go_simp; all_goals (with_reducible rfl))
                  simp only [Act.put, List.setIfInBounds_toArray, List.set_cons_zero, List.set_cons_succ]
                  refine take_drop (i := 4) (v := ?v4_4) rfl (by kernel_rfl) (by kernel_rfl) (by kernel_rfl) (fun _ _ _ h => h) (Or.inl ⟨by rfl, ?h4_4⟩) hHeld ?r4_4
                  case h4_4 => (intro wS hSw; obtain ⟨s1, s2⟩ := hSw; go_simp; all_goals (with_reducible rfl))
                  simp only [Act.put, List.setIfInBounds_toArray, List.set_cons_zero, List.set_cons_succ]
                  refine take_drop (i := 5) (v := ?v5_4) rfl (by kernel_rfl) (by kernel_rfl) (by kernel_rfl) (fun _ _ _ h => h) (Or.inl ⟨by rfl, ?h5_4⟩) hHeld ?r5_4
                  case h5_4 => (intro wS hSw; obtain ⟨s1, s2⟩ := hSw; go_simp; all_goals (with_reducible rfl))
                  simp only [Act.put, List.setIfInBounds_toArray, List.set_cons_zero, List.set_cons_succ]
                  refine take_drop (i := 6) (v := ?v6_4) rfl (by kernel_rfl) (by kernel_rfl) (by kernel_rfl) (fun _ _ _ h => h) (Or.inl ⟨by rfl, ?h6_4⟩) hHeld ?r6_4
                  case h6_4 => (intro wS hSw; obtain ⟨s1, s2⟩ := hSw; go_simp; all_goals (with_reducible rfl))
                  simp only [Act.put, List.setIfInBounds_toArray, List.set_cons_zero, List.set_cons_succ]
                  refine take_drop (i := 8) (v := ?v8_4) rfl (by kernel_rfl) (by kernel_rfl) (by kernel_rfl) (fun _ _ _ h => h) (Or.inl ⟨by rfl, ?h8_4⟩) hHeld ?r8_4
                  case h8_4 => (intro wS hSw; obtain ⟨s1, s2⟩ := hSw; go_simp; all_goals (with_reducible rfl))
                  simp only [Act.put, List.setIfInBounds_toArray, List.set_cons_zero, List.set_cons_succ]
                  refine take_drop (i := 9) (v := ?v9_4) rfl (by kernel_rfl) (by kernel_rfl) (by kernel_rfl) (fun _ _ _ h => h) (Or.inl ⟨by rfl, ?h9_4⟩) hHeld ?r9_4
                  case h9_4 => (intro wS hSw; obtain ⟨s1, s2⟩ := hSw; go_simp; all_goals (with_reducible rfl))
                  simp only [Act.put, List.setIfInBounds_toArray, List.set_cons_zero, List.set_cons_succ]
                  refine take_drop (i := 10) (v := ?v10_4) rfl (by kernel_rfl) (by kernel_rfl) (by kernel_rfl) (fun _ _ _ h => h) (Or.inl ⟨by rfl, ?h10_4⟩) hHeld ?r10_4
                  case h10_4 => (intro wS hSw; obtain ⟨s1, s2⟩ := hSw; go_simp; all_goals (with_reducible rfl))
                  simp only [Act.put, List.setIfInBounds_toArray, List.set_cons_zero, List.set_cons_succ]
                  refine take_drop (i := 11) (v := ?v11_4) rfl (by kernel_rfl) (by kernel_rfl) (by kernel_rfl) (fun _ _ _ h => h) (Or.inl ⟨by rfl, ?h11_4⟩) hHeld ?r11_4
                  case h11_4 => (intro wS hSw; obtain ⟨s1, s2⟩ := hSw; go_simp; all_goals (with_reducible rfl))
                  simp only [Act.put, List.setIfInBounds_toArray, List.set_cons_zero, List.set_cons_succ]
                  refine take_drop (i := 14) (v := ?v14_4) rfl (by kernel_rfl) (by kernel_rfl) (by kernel_rfl) (fun _ _ _ h => h) (Or.inl ⟨by rfl, ?h14_4⟩) hHeld ?r14_4
                  case h14_4 => (intro wS hSw; obtain ⟨s1, s2⟩ := hSw; go_simp; all_goals (with_reducible rfl))
                  simp only [Act.put, List.setIfInBounds_toArray, List.set_cons_zero, List.set_cons_succ]
                  refine take_drop (i := 15) (v := ?v15_4) rfl (by kernel_rfl) (by kernel_rfl) (by kernel_rfl) (fun _ _ _ h => h) (Or.inl ⟨by rfl, ?h15_4⟩) hHeld ?r15_4
                  case h15_4 => (intro wS hSw; obtain ⟨s1, s2⟩ := hSw; go_simp; all_goals (with_reducible rfl))
                  simp only [Act.put, List.setIfInBounds_toArray, List.set_cons_zero, List.set_cons_succ]
                  refine take_drop (i := 16) (v := ?v16_4) rfl (by kernel_rfl) (by kernel_rfl) (by kernel_rfl) (fun _ _ _ h => h) (Or.inl ⟨by rfl, ?h16_4⟩) hHeld ?r16_4
                  case h16_4 => (intro wS hSw; obtain ⟨s1, s2⟩ := hSw; go_simp; all_goals (with_reducible rfl))
                  simp only [Act.put, List.setIfInBounds_toArray, List.set_cons_zero, List.set_cons_succ]
                  refine take_drop (i := 17) (v := ?v17_4) rfl (by kernel_rfl) (by kernel_rfl) (by kernel_rfl) (fun _ _ _ h => h) (Or.inl ⟨by rfl, ?h17_4⟩) hHeld ?r17_4
                  case h17_4 => (intro wS hSw; obtain ⟨s1, s2⟩ := hSw; go_simp; all_goals (with_reducible rfl))
                  simp only [Act.put, List.setIfInBounds_toArray, List.set_cons_zero, List.set_cons_succ]
                  refine take_drop (i := 21) (v := ?v21_4) rfl (by kernel_rfl) (by kernel_rfl) (by kernel_rfl) (fun _ _ _ h => h) (Or.inl ⟨by rfl, ?h21_4⟩) hHeld ?r21_4
                  case h21_4 => (intro wS hSw; obtain ⟨s1, s2⟩ := hSw; go_simp; all_goals (with_reducible rfl))
                  simp only [Act.put, List.setIfInBounds_toArray, List.set_cons_zero, List.set_cons_succ]
                  refine take_drop (i := 22) (v := ?v22_4) rfl (by kernel_rfl) (by kernel_rfl) (by kernel_rfl) (fun _ _ _ h => h) (Or.inl ⟨by rfl, ?h22_4⟩) hHeld ?r22_4
                  case h22_4 => (intro wS hSw; obtain ⟨s1, s2⟩ := hSw; go_simp; all_goals (with_reducible rfl))
                  simp only [Act.put, List.setIfInBounds_toArray, List.set_cons_zero, List.set_cons_succ]
                  refine (fun (h1 : ?G3) => ?mG3) ?gG3
                  case mG3 =>
                    refine wpAnyH_ready (rs := [7, 12, 18]) (by kernel_rfl) (by simp) ?_
                    refine do_drop (i := 7) rfl (fun K hK => ?_) ?_
                    · go_simp
                      refine hK.out _ _ hHeld ?_
                      clear hK K
                      try simp only [Act.put, List.setIfInBounds_toArray, List.set_cons_zero, List.set_cons_succ]
                      refine wpAnyH_ready (rs := [12, 18]) (by kernel_rfl) (by simp) ?_
                      refine do_drop (i := 12) rfl (fun K hK => ?_) ?_
                      · go_simp
                        refine hK.out _ _ hHeld ?_
                        clear hK K
                        try simp only [Act.put, List.setIfInBounds_toArray, List.set_cons_zero, List.set_cons_succ]
                        refine take_drop (i := 13) (v := ?v13_6) rfl (by kernel_rfl) (by kernel_rfl) (by kernel_rfl) (fun _ _ _ h => h) (Or.inl ⟨by rfl, ?h13_6⟩) hHeld ?r13_6
                        case h13_6 => (intro wS hSw; obtain ⟨s1, s2⟩ := hSw; go_simp; all_goals (with_reducible rfl))
                        simp only [Act.put, List.setIfInBounds_toArray, List.set_cons_zero, List.set_cons_succ]
                        refine wpAnyH_ready (rs := [18]) (by kernel_rfl) (by simp) ?_
                        refine do_drop (i := 18) rfl (fun K hK => ?_) AllReadyH.nil
                        go_simp
                        refine hK.out _ _ hHeld ?_
                        clear hK K
                        try simp only [Act.put, List.setIfInBounds_toArray, List.set_cons_zero, List.set_cons_succ]
                        refine take_drop (i := 19) (v := ?v19_7) rfl (by kernel_rfl) (by kernel_rfl) (by kernel_rfl) (fun _ _ _ h => h) (Or.inl ⟨by rfl, ?h19_7⟩) hHeld ?r19_7
                        case h19_7 => (intro wS hSw; obtain ⟨s1, s2⟩ := hSw; go_simp; all_goals (with_reducible rfl))
                        simp only [Act.put, List.setIfInBounds_toArray, List.set_cons_zero, List.set_cons_succ]
                        exact h1
                      refine do_drop (i := 18) rfl (fun K hK => ?_) AllReadyH.nil
                      go_simp
                      refine hK.out _ _ hHeld ?_
                      clear hK K
                      try simp only [Act.put, List.setIfInBounds_toArray, List.set_cons_zero, List.set_cons_succ]
                      refine take_drop (i := 19) (v := ?v19_8) rfl (by kernel_rfl) (by kernel_rfl) (by kernel_rfl) (fun _ _ _ h => h) (Or.inl ⟨by rfl, ?h19_8⟩) hHeld ?r19_8
                      case h19_8 => (intro wS hSw; obtain ⟨s1, s2⟩ := hSw; go_simp; all_goals (with_reducible rfl))
                      simp only [Act.put, List.setIfInBounds_toArray, List.set_cons_zero, List.set_cons_succ]
                      refine wpAnyH_ready (rs := [12]) (by kernel_rfl) (by simp) ?_
                      refine do_drop (i := 12) rfl (fun K hK => ?_) AllReadyH.nil
                      go_simp
                      refine hK.out _ _ hHeld ?_
                      clear hK K
                      try simp only [Act.put, List.setIfInBounds_toArray, List.set_cons_zero, List.set_cons_succ]
                      refine take_drop (i := 13) (v := ?v13_9) rfl (by kernel_rfl) (by kernel_rfl) (by kernel_rfl) (fun _ _ _ h => h) (Or.inl ⟨by rfl, ?h13_9⟩) hHeld ?r13_9
                      case h13_9 => (intro wS hSw; obtain ⟨s1, s2⟩ := hSw; go_simp; all_goals (with_reducible rfl))
                      simp only [Act.put, List.setIfInBounds_toArray, List.set_cons_zero, List.set_cons_succ]
                      exact h1
                    refine do_drop (i := 12) rfl (fun K hK => ?_) ?_
                    · go_simp
                      refine hK.out _ _ hHeld ?_
                      clear hK K
                      try simp only [Act.put, List.setIfInBounds_toArray, List.set_cons_zero, List.set_cons_succ]
                      refine take_drop (i := 13) (v := ?v13_10) rfl (by kernel_rfl) (by kernel_rfl) (by kernel_rfl) (fun _ _ _ h => h) (Or.inl ⟨by rfl, ?h13_10⟩) hHeld ?r13_10
                      case h13_10 => (intro wS hSw; obtain ⟨s1, s2⟩ := hSw; go_simp; all_goals (with_reducible rfl))
                      simp only [Act.put, List.setIfInBounds_toArray, List.set_cons_zero, List.set_cons_succ]
                      refine wpAnyH_ready (rs := [7, 18]) (by kernel_rfl) (by simp) ?_
                      refine do_drop (i := 7) rfl (fun K hK => ?_) ?_
                      · go_simp
                        refine hK.out _ _ hHeld ?_
                        clear hK K
                        try simp only [Act.put, List.setIfInBounds_toArray, List.set_cons_zero, List.set_cons_succ]
                        refine wpAnyH_ready (rs := [18]) (by kernel_rfl) (by simp) ?_
                        refine do_drop (i := 18) rfl (fun K hK => ?_) AllReadyH.nil
                        go_simp
                        refine hK.out _ _ hHeld ?_
                        clear hK K
                        try simp only [Act.put, List.setIfInBounds_toArray, List.set_cons_zero, List.set_cons_succ]
                        refine take_drop (i := 19) (v := ?v19_12) rfl (by kernel_rfl) (by kernel_rfl) (by kernel_rfl) (fun _ _ _ h => h) (Or.inl ⟨by rfl, ?h19_12⟩) hHeld ?r19_12
                        case h19_12 => (intro wS hSw; obtain ⟨s1, s2⟩ := hSw; go_simp; all_goals (with_reducible rfl))
                        simp only [Act.put, List.setIfInBounds_toArray, List.set_cons_zero, List.set_cons_succ]
                        exact h1
                      refine do_drop (i := 18) rfl (fun K hK => ?_) AllReadyH.nil
                      go_simp
                      refine hK.out _ _ hHeld ?_
                      clear hK K
                      try simp only [Act.put, List.setIfInBounds_toArray, List.set_cons_zero, List.set_cons_succ]
                      refine take_drop (i := 19) (v := ?v19_13) rfl (by kernel_rfl) (by kernel_rfl) (by kernel_rfl) (fun _ _ _ h => h) (Or.inl ⟨by rfl, ?h19_13⟩) hHeld ?r19_13
                      case h19_13 => (intro wS hSw; obtain ⟨s1, s2⟩ := hSw; go_simp; all_goals (with_reducible rfl))
                      simp only [Act.put, List.setIfInBounds_toArray, List.set_cons_zero, List.set_cons_succ]
                      refine wpAnyH_ready (rs := [7]) (by kernel_rfl) (by simp) ?_
                      refine do_drop (i := 7) rfl (fun K hK => ?_) AllReadyH.nil
                      go_simp
                      refine hK.out _ _ hHeld ?_
                      clear hK K
                      try simp only [Act.put, List.setIfInBounds_toArray, List.set_cons_zero, List.set_cons_succ]
                      exact h1
                    refine do_drop (i := 18) rfl (fun K hK => ?_) AllReadyH.nil
                    go_simp
                    refine hK.out _ _ hHeld ?_
                    clear hK K
                    try simp only [Act.put, List.setIfInBounds_toArray, List.set_cons_zero, List.set_cons_succ]
                    refine take_drop (i := 19) (v := ?v19_15) rfl (by kernel_rfl) (by kernel_rfl) (by kernel_rfl) (fun _ _ _ h => h) (Or.inl ⟨by rfl, ?h19_15⟩) hHeld ?r19_15
                    case h19_15 => (intro wS hSw; obtain ⟨s1, s2⟩ := hSw; go_simp; all_goals (with_reducible rfl))
                    simp only [Act.put, List.setIfInBounds_toArray, List.set_cons_zero, List.set_cons_succ]
                    refine wpAnyH_ready (rs := [7, 12]) (by kernel_rfl) (by simp) ?_
                    refine do_drop (i := 7) rfl (fun K hK => ?_) ?_
                    · go_simp
                      refine hK.out _ _ hHeld ?_
                      clear hK K
                      try simp only [Act.put, List.setIfInBounds_toArray, List.set_cons_zero, List.set_cons_succ]
                      refine wpAnyH_ready (rs := [12]) (by kernel_rfl) (by simp) ?_
                      refine do_drop (i := 12) rfl (fun K hK => ?_) AllReadyH.nil
                      go_simp
                      refine hK.out _ _ hHeld ?_
                      clear hK K
                      try simp only [Act.put, List.setIfInBounds_toArray, List.set_cons_zero, List.set_cons_succ]
                      refine take_drop (i := 13) (v := ?v13_17) rfl (by kernel_rfl) (by kernel_rfl) (by kernel_rfl) (fun _ _ _ h => h) (Or.inl ⟨by rfl, ?h13_17⟩) hHeld ?r13_17
                      case h13_17 => (intro wS hSw; obtain ⟨s1, s2⟩ := hSw; go_simp; all_goals (with_reducible rfl))
                      simp only [Act.put, List.setIfInBounds_toArray, List.set_cons_zero, List.set_cons_succ]
                      exact h1
                    refine do_drop (i := 12) rfl (fun K hK => ?_) AllReadyH.nil
                    go_simp
                    refine hK.out _ _ hHeld ?_
                    clear hK K
                    try simp only [Act.put, List.setIfInBounds_toArray, List.set_cons_zero, List.set_cons_succ]
                    refine take_drop (i := 13) (v := ?v13_18) rfl (by kernel_rfl) (by kernel_rfl) (by kernel_rfl) (fun _ _ _ h => h) (Or.inl ⟨by rfl, ?h13_18⟩) hHeld ?r13_18
                    case h13_18 => (intro wS hSw; obtain ⟨s1, s2⟩ := hSw; go_simp; all_goals (with_reducible rfl))
                    simp only [Act.put, List.setIfInBounds_toArray, List.set_cons_zero, List.set_cons_succ]
                    refine wpAnyH_ready (rs := [7]) (by kernel_rfl) (by simp) ?_
                    refine do_drop (i := 7) rfl (fun K hK => ?_) AllReadyH.nil
                    go_simp
                    refine hK.out _ _ hHeld ?_
                    clear hK K
                    try simp only [Act.put, List.setIfInBounds_toArray, List.set_cons_zero, List.set_cons_succ]
                    exact h1
                  case gG3 =>
                    refine take_drop (i := 20) (v := ?v20_20) rfl (by kernel_rfl) (by kernel_rfl) (by kernel_rfl) (fun _ _ _ h => h) (Or.inl ⟨by rfl, ?h20_20⟩) hHeld ?r20_20
                    case h20_20 => (intro wS hSw; obtain ⟨s1, s2⟩ := hSw; go_simp; all_goals (with_reducible rfl))
                    simp only [Act.put, List.setIfInBounds_toArray, List.set_cons_zero, List.set_cons_succ]
                    refine wpAnyH_ready (rs := [23]) (by kernel_rfl) (by simp) ?_
                    refine do_drop (i := 23) rfl (fun K hK => ?_) AllReadyH.nil
                    rw [if_pos (by rfl)]
                    refine oper_append_run _ _ 31 rfl rfl rfl HRUN.out ?_
                    refine hK.out _ _ ⟨v19, v49⟩ ?_
                    clear hK K
                    try simp only [Act.put, List.setIfInBounds_toArray, List.set_cons_zero, List.set_cons_succ]
                    have hS9 := And.intro v19 v49
                    refine take_drop (i := 24) (v := ?v24_20) rfl (by kernel_rfl) (by kernel_rfl) (by kernel_rfl) (fun _ _ _ h => h) (Or.inl ⟨by rfl, ?h24_20⟩) hS9 ?r24_20
                    case h24_20 => (intro wS hSw; obtain ⟨s1, s2⟩ := hSw; go_simp; all_goals (with_reducible rfl))
                    simp only [Act.put, List.setIfInBounds_toArray, List.set_cons_zero, List.set_cons_succ]
                    refine wpAnyH_ready (rs := [25]) (by kernel_rfl) (by simp) ?_
                    refine do_drop (i := 25) rfl (fun K hK => ?_) AllReadyH.nil
                    go_simp
                    refine hK.out _ _ ⟨v1s, v4s⟩ ?_
                    clear hK K
                    try simp only [Act.put, List.setIfInBounds_toArray, List.set_cons_zero, List.set_cons_succ]
                    refine wpAnyH_done (by kernel_rfl) ?_ _
                    clear hHeld hS9 v1 v4 v19 v49 v1s v4s cL8 gL8 cL9 gL9 hcut
                    go_wp2_with fail
                    go_roundw
                    case rel => exact ⟨j + 1, F7, m7, _, fs, _, by simp, by omega, HO10.out, HK10.out, HR10.out, hd7⟩
                    case measure => simp [intOf]; omega
              · go_wp2_with fail
                as_aux_lemma =>
                  refine wp_region_held_drew (S := fun w' => w'.cell? ⟨ob, 1, none⟩ = some (.int .i64 (q : Int)) ∧ w'.cell? ⟨W.heap.size, 0, none⟩ = some (.int .i64 (Z : Int)) ∧ w'.cell? ⟨ob, 4, none⟩ = some (.slice xda dn xdc) ∧ w'.cell? ⟨L, q, none⟩ = some (.slice ta AL tc)) (by kernel_rfl) ⟨z1, z0, z4, zL⟩ (fun hHeld => ?_)
                  refine take_drop (i := 0) (v := ?v0_40) rfl (by kernel_rfl) (by kernel_rfl) (by kernel_rfl) (fun _ _ _ h => h) (Or.inl ⟨by rfl, ?h0_40⟩) hHeld ?r0_40
                  case h0_40 => (intro wS hSw; obtain ⟨s1, s2, s3, s4⟩ := hSw; go_simp; all_goals (with_reducible rfl))
                  simp only [Act.put, List.setIfInBounds_toArray, List.set_cons_zero, List.set_cons_succ]
                  refine take_drop (i := 1) (v := ?v1_40) rfl (by kernel_rfl) (by kernel_rfl) (by kernel_rfl) (fun _ _ _ h => h) (Or.inl ⟨by rfl, ?h1_40⟩) hHeld ?r1_40
                  case h1_40 => (intro wS hSw; obtain ⟨s1, s2, s3, s4⟩ := hSw; go_simp; all_goals (with_reducible rfl))
                  simp only [Act.put, List.setIfInBounds_toArray, List.set_cons_zero, List.set_cons_succ]
                  refine take_drop (i := 2) (v := ?v2_40) rfl (by kernel_rfl) (by kernel_rfl) (by kernel_rfl) (fun _ _ _ h => h) (Or.inl ⟨by rfl, ?h2_40⟩) hHeld ?r2_40
                  case h2_40 => (intro wS hSw; obtain ⟨s1, s2, s3, s4⟩ := hSw; go_simp; all_goals (with_reducible rfl))
                  simp only [Act.put, List.setIfInBounds_toArray, List.set_cons_zero, List.set_cons_succ]
                  refine take_drop (i := 3) (v := ?v3_40) rfl (by kernel_rfl) (by kernel_rfl) (by kernel_rfl) (fun _ _ _ h => h) (Or.inl ⟨by rfl, ?h3_40⟩) hHeld ?r3_40
                  case h3_40 => (intro wS hSw; obtain ⟨s1, s2, s3, s4⟩ := hSw; go_simp; all_goals (with_reducible rfl))
                  simp only [Act.put, List.setIfInBounds_toArray, List.set_cons_zero, List.set_cons_succ]
                  refine take_drop (i := 4) (v := ?v4_40) rfl (by kernel_rfl) (by kernel_rfl) (by kernel_rfl) (fun _ _ _ h => h) (Or.inl ⟨by rfl, ?h4_40⟩) hHeld ?r4_40
                  case h4_40 => (intro wS hSw; obtain ⟨s1, s2, s3, s4⟩ := hSw; go_simp; all_goals (with_reducible rfl))
                  simp only [Act.put, List.setIfInBounds_toArray, List.set_cons_zero, List.set_cons_succ]
                  refine take_drop (i := 5) (v := ?v5_40) rfl (by kernel_rfl) (by kernel_rfl) (by kernel_rfl) (fun _ _ _ h => h) (Or.inl ⟨by rfl, ?h5_40⟩) hHeld ?r5_40
                  case h5_40 => (intro wS hSw; obtain ⟨s1, s2, s3, s4⟩ := hSw; go_simp; all_goals (with_reducible rfl))
                  simp only [Act.put, List.setIfInBounds_toArray, List.set_cons_zero, List.set_cons_succ]
                  refine take_drop (i := 6) (v := ?v6_40) rfl (by kernel_rfl) (by kernel_rfl) (by kernel_rfl) (fun _ _ _ h => h) (Or.inl ⟨by rfl, ?h6_40⟩) hHeld ?r6_40
                  case h6_40 => (intro wS hSw; obtain ⟨s1, s2, s3, s4⟩ := hSw; go_simp; all_goals (with_reducible rfl))
                  simp only [Act.put, List.setIfInBounds_toArray, List.set_cons_zero, List.set_cons_succ]
                  refine take_drop (i := 7) (v := ?v7_40) rfl (by kernel_rfl) (by kernel_rfl) (by kernel_rfl) (fun _ _ _ h => h) (Or.inl ⟨by rfl, ?h7_40⟩) hHeld ?r7_40
                  case h7_40 => (intro wS hSw; obtain ⟨s1, s2, s3, s4⟩ := hSw; go_simp; all_goals (with_reducible rfl))
                  simp only [Act.put, List.setIfInBounds_toArray, List.set_cons_zero, List.set_cons_succ]
                  refine take_drop (i := 8) (v := ?v8_40) rfl (by kernel_rfl) (by kernel_rfl) (by kernel_rfl) (fun _ _ _ h => h) (Or.inl ⟨by rfl, ?h8_40⟩) hHeld ?r8_40
                  case h8_40 => (intro wS hSw; obtain ⟨s1, s2, s3, s4⟩ := hSw; go_simp; all_goals (with_reducible rfl))
                  simp only [Act.put, List.setIfInBounds_toArray, List.set_cons_zero, List.set_cons_succ]
                  refine take_drop (i := 9) (v := ?v9_40) rfl (by kernel_rfl) (by kernel_rfl) (by kernel_rfl) (fun _ _ _ h => h) (Or.inl ⟨by rfl, ?h9_40⟩) hHeld ?r9_40
                  case h9_40 => (intro wS hSw; obtain ⟨s1, s2, s3, s4⟩ := hSw; go_simp; all_goals (with_reducible rfl))
                  simp only [Act.put, List.setIfInBounds_toArray, List.set_cons_zero, List.set_cons_succ]
                  refine take_drop (i := 10) (v := ?v10_40) rfl (by kernel_rfl) (by kernel_rfl) (by kernel_rfl) (fun _ _ _ h => h) (Or.inl ⟨by rfl, ?h10_40⟩) hHeld ?r10_40
                  case h10_40 => (intro wS hSw; obtain ⟨s1, s2, s3, s4⟩ := hSw; go_simp; all_goals (with_reducible rfl))
                  simp only [Act.put, List.setIfInBounds_toArray, List.set_cons_zero, List.set_cons_succ]
                  refine take_drop (i := 11) (v := ?v11_40) rfl (by kernel_rfl) (by kernel_rfl) (by kernel_rfl) (fun _ _ _ h => h) (Or.inl ⟨by rfl, ?h11_40⟩) hHeld ?r11_40
                  case h11_40 => (intro wS hSw; obtain ⟨s1, s2, s3, s4⟩ := hSw; go_simp; all_goals (with_reducible rfl))
                  simp only [Act.put, List.setIfInBounds_toArray, List.set_cons_zero, List.set_cons_succ]
                  refine take_drop (i := 12) (v := ?v12_40) rfl (by kernel_rfl) (by kernel_rfl) (by kernel_rfl) (fun _ _ _ h => h) (Or.inl ⟨by rfl, ?h12_40⟩) hHeld ?r12_40
                  case h12_40 => (intro wS hSw; obtain ⟨s1, s2, s3, s4⟩ := hSw; go_simp; all_goals (with_reducible rfl))
                  simp only [Act.put, List.setIfInBounds_toArray, List.set_cons_zero, List.set_cons_succ]
                  refine take_drop (i := 13) (v := ?v13_40) rfl (by kernel_rfl) (by kernel_rfl) (by kernel_rfl) (fun _ _ _ h => h) (Or.inl ⟨by rfl, ?h13_40⟩) hHeld ?r13_40
                  case h13_40 => (intro wS hSw; obtain ⟨s1, s2, s3, s4⟩ := hSw; go_simp; all_goals (with_reducible rfl))
                  simp only [Act.put, List.setIfInBounds_toArray, List.set_cons_zero, List.set_cons_succ]
                  refine take_drop (i := 15) (v := ?v15_40) rfl (by kernel_rfl) (by kernel_rfl) (by kernel_rfl) (fun _ _ _ h => h) (Or.inl ⟨by rfl, ?h15_40⟩) hHeld ?r15_40
                  case h15_40 => (intro wS hSw; obtain ⟨s1, s2, s3, s4⟩ := hSw; go_simp; all_goals (with_reducible rfl))
                  simp only [Act.put, List.setIfInBounds_toArray, List.set_cons_zero, List.set_cons_succ]
                  refine take_drop (i := 16) (v := ?v16_40) rfl (by kernel_rfl) (by kernel_rfl) (by kernel_rfl) (fun _ _ _ h => h) (Or.inl ⟨by rfl, ?h16_40⟩) hHeld ?r16_40
                  case h16_40 => (intro wS hSw; obtain ⟨s1, s2, s3, s4⟩ := hSw; go_simp; all_goals (with_reducible rfl))
                  simp only [Act.put, List.setIfInBounds_toArray, List.set_cons_zero, List.set_cons_succ]
                  refine take_drop (i := 17) (v := ?v17_40) rfl (by kernel_rfl) (by kernel_rfl) (by kernel_rfl) (fun _ _ _ h => h) (Or.inl ⟨by rfl, ?h17_40⟩) hHeld ?r17_40
                  case h17_40 => (intro wS hSw; obtain ⟨s1, s2, s3, s4⟩ := hSw; go_simp; all_goals (with_reducible rfl))
                  simp only [Act.put, List.setIfInBounds_toArray, List.set_cons_zero, List.set_cons_succ]
                  refine take_drop (i := 18) (v := ?v18_40) rfl (by kernel_rfl) (by kernel_rfl) (by kernel_rfl) (fun _ _ _ h => h) (Or.inl ⟨by rfl, ?h18_40⟩) hHeld ?r18_40
                  case h18_40 => (intro wS hSw; obtain ⟨s1, s2, s3, s4⟩ := hSw; go_simp; all_goals (with_reducible rfl))
                  simp only [Act.put, List.setIfInBounds_toArray, List.set_cons_zero, List.set_cons_succ]
                  refine take_drop (i := 19) (v := ?v19_40) rfl (by kernel_rfl) (by kernel_rfl) (by kernel_rfl) (fun _ _ _ h => h) (Or.inl ⟨by rfl, ?h19_40⟩) hHeld ?r19_40
                  case h19_40 => (intro wS hSw; obtain ⟨s1, s2, s3, s4⟩ := hSw; go_simp; all_goals (with_reducible rfl))
                  simp only [Act.put, List.setIfInBounds_toArray, List.set_cons_zero, List.set_cons_succ]
                  refine take_drop (i := 20) (v := ?v20_40) rfl (by kernel_rfl) (by kernel_rfl) (by kernel_rfl) (fun _ _ _ h => h) (Or.inl ⟨by rfl, ?h20_40⟩) hHeld ?r20_40
                  case h20_40 => (intro wS hSw; obtain ⟨s1, s2, s3, s4⟩ := hSw; go_simp; all_goals (with_reducible rfl))
                  simp only [Act.put, List.setIfInBounds_toArray, List.set_cons_zero, List.set_cons_succ]
                  refine take_drop (i := 21) (v := ?v21_40) rfl (by kernel_rfl) (by kernel_rfl) (by kernel_rfl) (fun _ _ _ h => h) (Or.inl ⟨by rfl, ?h21_40⟩) hHeld ?r21_40
                  case h21_40 => (intro wS hSw; obtain ⟨s1, s2, s3, s4⟩ := hSw; go_simp; all_goals (with_reducible rfl))
                  simp only [Act.put, List.setIfInBounds_toArray, List.set_cons_zero, List.set_cons_succ]
                  refine take_drop (i := 22) (v := ?v22_40) rfl (by kernel_rfl) (by kernel_rfl) (by kernel_rfl) (fun _ _ _ h => h) (Or.inl ⟨by rfl, ?h22_40⟩) hHeld ?r22_40
                  case h22_40 => (intro wS hSw; obtain ⟨s1, s2, s3, s4⟩ := hSw; go_simp; all_goals (with_reducible rfl))
                  simp only [Act.put, List.setIfInBounds_toArray, List.set_cons_zero, List.set_cons_succ]
                  refine take_drop (i := 23) (v := ?v23_40) rfl (by kernel_rfl) (by kernel_rfl) (by kernel_rfl) (fun _ _ _ h => h) (Or.inl ⟨by rfl, ?h23_40⟩) hHeld ?r23_40
                  case h23_40 => (intro wS hSw; obtain ⟨s1, s2, s3, s4⟩ := hSw; go_simp; all_goals (with_reducible rfl))
                  simp only [Act.put, List.setIfInBounds_toArray, List.set_cons_zero, List.set_cons_succ]
                  refine take_drop (i := 24) (v := ?v24_40) rfl (by kernel_rfl) (by kernel_rfl) (by kernel_rfl) (fun _ _ _ h => h) (Or.inl ⟨by rfl, ?h24_40⟩) hHeld ?r24_40
                  case h24_40 => (intro wS hSw; obtain ⟨s1, s2, s3, s4⟩ := hSw; go_simp; all_goals (with_reducible rfl))
                  simp only [Act.put, List.setIfInBounds_toArray, List.set_cons_zero, List.set_cons_succ]
                  refine wpAnyH_ready (rs := [14]) (by kernel_rfl) (by simp) ?_
                  refine do_drop (i := 14) rfl (fun K hK => ?_) AllReadyH.nil
                  go_simp
                  refine (HPT.out _ HOD.out).mono ?_
                  rintro e w8 ⟨rfl, hO8, f8⟩
                  have y1 := f8.cell z1 (fun h => h)
                  have y0 := f8.cell z0 (fun h => h)
                  have y4 := f8.cell z4 (fun h => h)
                  have yL := f8.cell zL (fun h => h)
                  have HO8 := Lib.hid hO8
                  have HK8 := Lib.hid (HKD.out.tell f8)
                  have HA8 := Lib.hid (HAD.out.keep f8 (fun h => h))
                  clear hO8 f8
                  refine hK.out _ _ ⟨y1, y0, y4, yL⟩ ?_
                  clear hK K
                  try simp only [Act.put, List.setIfInBounds_toArray, List.set_cons_zero, List.set_cons_succ]
                  have hS8 := And.intro y1 (And.intro y0 (And.intro y4 yL))
                  clear hHeld
                  refine take_drop (i := 25) (v := ?v25_40) rfl (by kernel_rfl) (by kernel_rfl) (by kernel_rfl) (fun _ _ _ h => h) (Or.inl ⟨by rfl, ?h25_40⟩) hS8 ?r25_40
                  case h25_40 => (intro wS hSw; obtain ⟨s1, s2, s3, s4⟩ := hSw; go_simp; all_goals (with_reducible rfl))
                  simp only [Act.put, List.setIfInBounds_toArray, List.set_cons_zero, List.set_cons_succ]
                  refine take_drop (i := 26) (v := ?v26_40) rfl (by kernel_rfl) (by kernel_rfl) (by kernel_rfl) (fun _ _ _ h => h) (Or.inl ⟨by rfl, ?h26_40⟩) hS8 ?r26_40
                  case h26_40 => (intro wS hSw; obtain ⟨s1, s2, s3, s4⟩ := hSw; go_simp; all_goals (with_reducible rfl))
                  simp only [Act.put, List.setIfInBounds_toArray, List.set_cons_zero, List.set_cons_succ]
                  refine take_drop (i := 27) (v := ?v27_40) rfl (by kernel_rfl) (by kernel_rfl) (by kernel_rfl) (fun _ _ _ h => h) (Or.inl ⟨by rfl, ?h27_40⟩) hS8 ?r27_40
                  case h27_40 => (intro wS hSw; obtain ⟨s1, s2, s3, s4⟩ := hSw; go_simp; all_goals (with_reducible rfl))
                  simp only [Act.put, List.setIfInBounds_toArray, List.set_cons_zero, List.set_cons_succ]
                  refine take_drop (i := 28) (v := ?v28_40) rfl (by kernel_rfl) (by kernel_rfl) (by kernel_rfl) (fun _ _ _ h => h) (Or.inl ⟨by rfl, ?h28_40⟩) hS8 ?r28_40
                  case h28_40 => (intro wS hSw; obtain ⟨s1, s2, s3, s4⟩ := hSw; go_simp; all_goals (with_reducible rfl))
                  simp only [Act.put, List.setIfInBounds_toArray, List.set_cons_zero, List.set_cons_succ]
                  refine take_drop (i := 29) (v := ?v29_40) rfl (by kernel_rfl) (by kernel_rfl) (by kernel_rfl) (fun _ _ _ h => h) (Or.inl ⟨by rfl, ?h29_40⟩) hS8 ?r29_40
                  case h29_40 => (intro wS hSw; obtain ⟨s1, s2, s3, s4⟩ := hSw; go_simp; all_goals (with_reducible rfl))
                  simp only [Act.put, List.setIfInBounds_toArray, List.set_cons_zero, List.set_cons_succ]
                  refine take_drop (i := 30) (v := ?v30_40) rfl (by kernel_rfl) (by kernel_rfl) (by kernel_rfl) (fun _ _ _ h => h) (Or.inl ⟨by rfl, ?h30_40⟩) hS8 ?r30_40
                  case h30_40 => (intro wS hSw; obtain ⟨s1, s2, s3, s4⟩ := hSw; go_simp; all_goals (with_reducible rfl))
                  simp only [Act.put, List.setIfInBounds_toArray, List.set_cons_zero, List.set_cons_succ]
                  refine take_drop (i := 31) (v := ?v31_40) rfl (by kernel_rfl) (by kernel_rfl) (by kernel_rfl) (fun _ _ _ h => h) (Or.inl ⟨by rfl, ?h31_40⟩) hS8 ?r31_40
                  case h31_40 => (intro wS hSw; obtain ⟨s1, s2, s3, s4⟩ := hSw; go_simp; all_goals (with_reducible rfl))
                  simp only [Act.put, List.setIfInBounds_toArray, List.set_cons_zero, List.set_cons_succ]
                  refine take_drop (i := 32) (v := ?v32_40) rfl (by kernel_rfl) (by kernel_rfl) (by kernel_rfl) (fun _ _ _ h => h) (Or.inl ⟨by rfl, ?h32_40⟩) hS8 ?r32_40
                  case h32_40 => (intro wS hSw; obtain ⟨s1, s2, s3, s4⟩ := hSw; go_simp; all_goals (with_reducible rfl))
                  simp only [Act.put, List.setIfInBounds_toArray, List.set_cons_zero, List.set_cons_succ]
                  refine take_drop (i := 33) (v := ?v33_40) rfl (by kernel_rfl) (by kernel_rfl) (by kernel_rfl) (fun _ _ _ h => h) (Or.inl ⟨by rfl, ?h33_40⟩) hS8 ?r33_40
                  case h33_40 => (intro wS hSw; obtain ⟨s1, s2, s3, s4⟩ := hSw; go_simp; all_goals (with_reducible rfl))
                  simp only [Act.put, List.setIfInBounds_toArray, List.set_cons_zero, List.set_cons_succ]
                  refine take_drop (i := 34) (v := ?v34_40) rfl (by kernel_rfl) (by kernel_rfl) (by kernel_rfl) (fun _ _ _ h => h) (Or.inl ⟨by rfl, ?h34_40⟩) hS8 ?r34_40
                  case h34_40 => (intro wS hSw; obtain ⟨s1, s2, s3, s4⟩ := hSw; go_simp; all_goals (with_reducible rfl))
                  simp only [Act.put, List.setIfInBounds_toArray, List.set_cons_zero, List.set_cons_succ]
                  refine wpAnyH_done (by kernel_rfl) ?_ _
                  clear hS8 z0 z1 z4 zL y0 y1 y4 yL
                  go_wp2_with fail
                  have hta := HTA.out
                  have htb := HTB.out
                  have htc := HTC.out
                  have hm7 := HM7.out
                  have gL8 := (HK8.out.cellL hq).2
                  have cL8 := (HK8.out.cellL hq).1
                  rw [hta, htb, htc, HAL.out] at cL8
                  have v1 : w8.drew.cell? ⟨ob, 1, none⟩ = some (.int .i64 (q : Int)) := HA8.out.cell 1
                  have v4 : w8.drew.cell? ⟨ob, 4, none⟩ = some (.slice xda dn xdc) := HA8.out.cell 4
                  have cL8d := cL8
                  have hel := HK8.out.el q hq
                  rw [hta, htb, htc] at hel
                  obtain ⟨hel1, hel2, hel3⟩ := hel
                  rw [HAL.out] at hel1
                  have hcut := cut_own ta AL tc hel1
                  obtain ⟨a9, c9, w9, hrun, h9a, h9b, h9c, f9⟩ := grow_bytes w8.drew ta tb (hel3.keep (Fr.refl No w8).drew (fun _ _ h => h)) xda xdc xd ((In.of_rd HDL.out.2.2).keep (HO8.out.fr.drew) (fun _ _ h => h)) (by rw [HAL.out, HDN.out]; have h3 := (zoneM_ok HO1.out.wf (q : Int)).l; have h4 := HO1.out.wf.s64; rw [HZB.out, HAL.out] at h3; have := HSZ.out.1; rw [HDN.out] at this; omega)
                  rw [HAL.out, HDN.out] at hrun
                  obtain ⟨n9, hn9⟩ : ∃ x, (tb ++ xd).length = x := ⟨_, rfl⟩
                  rw [hn9] at hrun h9a
                  have HRUN := Lib.hid hrun
                  have hK9 := HK8.out.tell (((Fr.refl No w8).drew).trans f9)
                  obtain ⟨cL9, gL9⟩ := hK9.cellL hq
                  rw [hta, htb, htc, HAL.out] at cL9
                  have hs10 := hK9.setL (X' := Gr X w8.drew w9) hq ⟨a9, c9, tb ++ xd⟩ (by show (tb ++ xd).length ≤ c9; rw [hn9]; exact h9a) h9b h9c (fun _ h => .inl h) (fun k hk => hk.elim (hK9.hi k) (fun h => h.2)) (fun k hk => hk.elim (hK9.ap k) (fun h => ⟨HO8.out.low HM.out k h.1, fun e => by have := HK8.out.la.lt; rw [← e] at this; exact absurd (show w8.heap.size ≤ k from h.1) (by omega), fun e => by have := HK8.out.sa.lt; rw [← e] at this; exact absurd (show w8.heap.size ≤ k from h.1) (by omega)⟩))
                  rw [show (⟨a9, c9, tb ++ xd⟩ : Tx).b.length = n9 from hn9] at hs10
                  have HO10 := Lib.hid ((HO8.out.keep HM.out (((Fr.refl No w8).drew).trans f9)).keepK HM.out hs10.2 (fun k hk e => hK9.nl ((show k = L from e) ▸ hk)) (fun k e => by rw [show k = L from e]; exact hK9.lw))
                  have HK10 := Lib.hid hs10.1
                  have v19 := f9.cell (p := ⟨ob, 1, none⟩) v1 (fun h => h)
                  have v49 := f9.cell (p := ⟨ob, 4, none⟩) v4 (fun h => h)
                  have v1s := hs10.2.cell v19 (fun e => HNL.out.1 e)
                  have v4s := hs10.2.cell v49 (fun e => HNL.out.1 e)
                  have HR10 := Lib.hid (HKR.out.app hq xd ⟨a9, c9, tb ++ xd⟩ (by show tb ++ xd = _; rw [htb]) HAPP.out)
                  rw [hm7] at HR10
                  clear hta htb htc hm7
                  clear hrun hK9 hs10 h9a h9b h9c f9 hel1 hel2 hel3 hn9
                  refine wp_region_held_drew (S := fun w' => w'.cell? ⟨ob, 1, none⟩ = some (.int .i64 (q : Int)) ∧ w'.cell? ⟨ob, 4, none⟩ = some (.slice xda dn xdc)) (by kernel_rfl) ⟨v1, v4⟩ (fun hHeld => ?_)
                  refine take_drop (i := 0) (v := ?v0_23) rfl (by kernel_rfl) (by kernel_rfl) (by kernel_rfl) (fun _ _ _ h => h) (Or.inl ⟨by rfl, ?h0_23⟩) hHeld ?r0_23
                  case h0_23 => (intro wS hSw; obtain ⟨s1, s2⟩ := hSw; go_simp; all_goals (with_reducible rfl))
                  simp only [Act.put, List.setIfInBounds_toArray, List.set_cons_zero, List.set_cons_succ]
                  refine take_drop (i := 1) (v := ?v1_23) rfl (by kernel_rfl) (by kernel_rfl) (by kernel_rfl) (fun _ _ _ h => h) (Or.inl ⟨by rfl, ?h1_23⟩) hHeld ?r1_23
                  case h1_23 => (intro wS hSw; obtain ⟨s1, s2⟩ := hSw; go_simp; all_goals (with_reducible rfl))
                  simp only [Act.put, List.setIfInBounds_toArray, List.set_cons_zero, List.set_cons_succ]
                  refine take_drop (i := 2) (v := ?v2_23) rfl (by kernel_rfl) (by kernel_rfl) (by kernel_rfl) (fun _ _ _ h => h) (Or.inl ⟨by rfl, ?h2_23⟩) hHeld ?r2_23
                  case h2_23 => (intro wS hSw; obtain ⟨s1, s2⟩ := hSw; go_simp; all_goals (with_reducible rfl))
                  simp only [Act.put, List.setIfInBounds_toArray, List.set_cons_zero, List.set_cons_succ]
                  refine take_drop (i := 3) (v := ?v3_23) rfl (by kernel_rfl) (by kernel_rfl) (by kernel_rfl) (fun _ _ _ h => h) (Or.inl ⟨by rfl, ?h3_23⟩) hHeld ?r3_23
                  case h3_23 => (intro wS hSw; obtain ⟨s1, s2⟩ := hSw; go_simp; all_goals (with_reducible rfl))
                  simp only [Act.put, List.setIfInBounds_toArray, List.set_cons_zero, List.set_cons_succ]
                  refine take_drop (i := 4) (v := ?v4_23) rfl (by kernel_rfl) (by kernel_rfl) (by kernel_rfl) (fun _ _ _ h => h) (Or.inl ⟨by rfl, ?h4_23⟩) hHeld ?r4_23
                  case h4_23 => (intro wS hSw; obtain ⟨s1, s2⟩ := hSw; go_simp; all_goals (with_reducible rfl))
                  simp only [Act.put, List.setIfInBounds_toArray, List.set_cons_zero, List.set_cons_succ]
                  refine take_drop (i := 5) (v := ?v5_23) rfl (by kernel_rfl) (by kernel_rfl) (by kernel_rfl) (fun _ _ _ h => h) (Or.inl ⟨by rfl, ?h5_23⟩) hHeld ?r5_23
                  case h5_23 => (intro wS hSw; obtain ⟨s1, s2⟩ := hSw; go_simp; all_goals (with_reducible rfl))
                  simp only [Act.put, List.setIfInBounds_toArray, List.set_cons_zero, List.set_cons_succ]
                  refine take_drop (i := 6) (v := ?v6_23) rfl (by kernel_rfl) (by kernel_rfl) (by kernel_rfl) (fun _ _ _ h => h) (Or.inl ⟨by rfl, ?h6_23⟩) hHeld ?r6_23
                  case h6_23 => (intro wS hSw; obtain ⟨s1, s2⟩ := hSw; go_simp; all_goals (with_reducible rfl))
                  simp only [Act.put, List.setIfInBounds_toArray, List.set_cons_zero, List.set_cons_succ]
                  refine take_drop (i := 8) (v := ?v8_23) rfl (by kernel_rfl) (by kernel_rfl) (by kernel_rfl) (fun _ _ _ h => h) (Or.inl ⟨by rfl, ?h8_23⟩) hHeld ?r8_23
                  case h8_23 => (intro wS hSw; obtain ⟨s1, s2⟩ := hSw; go_simp; all_goals (with_reducible rfl))
                  simp only [Act.put, List.setIfInBounds_toArray, List.set_cons_zero, List.set_cons_succ]
                  refine take_drop (i := 9) (v := ?v9_23) rfl (by kernel_rfl) (by kernel_rfl) (by kernel_rfl) (fun _ _ _ h => h) (Or.inl ⟨by rfl, ?h9_23⟩) hHeld ?r9_23
                  case h9_23 => (intro wS hSw; obtain ⟨s1, s2⟩ := hSw; go_simp; all_goals (with_reducible rfl))
                  simp only [Act.put, List.setIfInBounds_toArray, List.set_cons_zero, List.set_cons_succ]
                  refine take_drop (i := 10) (v := ?v10_23) rfl (by kernel_rfl) (by kernel_rfl) (by kernel_rfl) (fun _ _ _ h => h) (Or.inl ⟨by rfl, ?h10_23⟩) hHeld ?r10_23
                  case h10_23 => (intro wS hSw; obtain ⟨s1, s2⟩ := hSw; go_simp; all_goals (with_reducible rfl))
                  simp only [Act.put, List.setIfInBounds_toArray, List.set_cons_zero, List.set_cons_succ]
                  refine take_drop (i := 11) (v := ?v11_23) rfl (by kernel_rfl) (by kernel_rfl) (by kernel_rfl) (fun _ _ _ h => h) (Or.inl ⟨by rfl, ?h11_23⟩) hHeld ?r11_23
                  case h11_23 => (intro wS hSw; obtain ⟨s1, s2⟩ := hSw; go_simp; all_goals (with_reducible rfl))
                  simp only [Act.put, List.setIfInBounds_toArray, List.set_cons_zero, List.set_cons_succ]
                  refine take_drop (i := 14) (v := ?v14_23) rfl (by kernel_rfl) (by kernel_rfl) (by kernel_rfl) (fun _ _ _ h => h) (Or.inl ⟨by rfl, ?h14_23⟩) hHeld ?r14_23
                  case h14_23 => (intro wS hSw; obtain ⟨s1, s2⟩ := hSw; go_simp; all_goals (with_reducible rfl))
                  simp only [Act.put, List.setIfInBounds_toArray, List.set_cons_zero, List.set_cons_succ]
                  refine take_drop (i := 15) (v := ?v15_23) rfl (by kernel_rfl) (by kernel_rfl) (by kernel_rfl) (fun _ _ _ h => h) (Or.inl ⟨by rfl, ?h15_23⟩) hHeld ?r15_23
                  case h15_23 => (intro wS hSw; obtain ⟨s1, s2⟩ := hSw; go_simp; all_goals (with_reducible rfl))
                  simp only [Act.put, List.setIfInBounds_toArray, List.set_cons_zero, List.set_cons_succ]
                  refine take_drop (i := 16) (v := ?v16_23) rfl (by kernel_rfl) (by kernel_rfl) (by kernel_rfl) (fun _ _ _ h => h) (Or.inl ⟨by rfl, ?h16_23⟩) hHeld ?r16_23
                  case h16_23 => (intro wS hSw; obtain ⟨s1, s2⟩ := hSw; go_simp; all_goals (with_reducible rfl))
                  simp only [Act.put, List.setIfInBounds_toArray, List.set_cons_zero, List.set_cons_succ]
                  refine take_drop (i := 17) (v := ?v17_23) rfl (by kernel_rfl) (by kernel_rfl) (by kernel_rfl) (fun _ _ _ h => h) (Or.inl ⟨by rfl, ?h17_23⟩) hHeld ?r17_23
                  case h17_23 => (intro wS hSw; obtain ⟨s1, s2⟩ := hSw; go_simp; all_goals (with_reducible rfl))
                  simp only [Act.put, List.setIfInBounds_toArray, List.set_cons_zero, List.set_cons_succ]
                  refine take_drop (i := 21) (v := ?v21_23) rfl (by kernel_rfl) (by kernel_rfl) (by kernel_rfl) (fun _ _ _ h => h) (Or.inl ⟨by rfl, ?h21_23⟩) hHeld ?r21_23
                  case h21_23 => (intro wS hSw; obtain ⟨s1, s2⟩ := hSw; go_simp; all_goals (with_reducible rfl))
                  simp only [Act.put, List.setIfInBounds_toArray, List.set_cons_zero, List.set_cons_succ]
                  refine take_drop (i := 22) (v := ?v22_23) rfl (by kernel_rfl) (by kernel_rfl) (by kernel_rfl) (fun _ _ _ h => h) (Or.inl ⟨by rfl, ?h22_23⟩) hHeld ?r22_23
                  case h22_23 => (intro wS hSw; obtain ⟨s1, s2⟩ := hSw; go_simp; all_goals (with_reducible rfl))
                  simp only [Act.put, List.setIfInBounds_toArray, List.set_cons_zero, List.set_cons_succ]
                  refine (fun (h1 : ?G22) => ?mG22) ?gG22
                  case mG22 =>
                    refine wpAnyH_ready (rs := [7, 12, 18]) (by kernel_rfl) (by simp) ?_
                    refine do_drop (i := 7) rfl (fun K hK => ?_) ?_
                    · go_simp
                      refine hK.out _ _ hHeld ?_
                      clear hK K
                      try simp only [Act.put, List.setIfInBounds_toArray, List.set_cons_zero, List.set_cons_succ]
                      refine wpAnyH_ready (rs := [12, 18]) (by kernel_rfl) (by simp) ?_
                      refine do_drop (i := 12) rfl (fun K hK => ?_) ?_
                      · go_simp
                        refine hK.out _ _ hHeld ?_
                        clear hK K
                        try simp only [Act.put, List.setIfInBounds_toArray, List.set_cons_zero, List.set_cons_succ]
                        refine take_drop (i := 13) (v := ?v13_25) rfl (by kernel_rfl) (by kernel_rfl) (by kernel_rfl) (fun _ _ _ h => h) (Or.inl ⟨by rfl, ?h13_25⟩) hHeld ?r13_25
                        case h13_25 => (intro wS hSw; obtain ⟨s1, s2⟩ := hSw; go_simp; all_goals (with_reducible rfl))
                        simp only [Act.put, List.setIfInBounds_toArray, List.set_cons_zero, List.set_cons_succ]
                        refine wpAnyH_ready (rs := [18]) (by kernel_rfl) (by simp) ?_
                        refine do_drop (i := 18) rfl (fun K hK => ?_) AllReadyH.nil
                        go_simp
                        refine hK.out _ _ hHeld ?_
                        clear hK K
                        try simp only [Act.put, List.setIfInBounds_toArray, List.set_cons_zero, List.set_cons_succ]
                        refine take_drop (i := 19) (v := ?v19_26) rfl (by kernel_rfl) (by kernel_rfl) (by kernel_rfl) (fun _ _ _ h => h) (Or.inl ⟨by rfl, ?h19_26⟩) hHeld ?r19_26
                        case h19_26 => (intro wS hSw; obtain ⟨s1, s2⟩ := hSw; go_simp; all_goals (with_reducible rfl))
                        simp only [Act.put, List.setIfInBounds_toArray, List.set_cons_zero, List.set_cons_succ]
                        exact h1
                      refine do_drop (i := 18) rfl (fun K hK => ?_) AllReadyH.nil
                      go_simp
                      refine hK.out _ _ hHeld ?_
                      clear hK K
                      try simp only [Act.put, List.setIfInBounds_toArray, List.set_cons_zero, List.set_cons_succ]
                      refine take_drop (i := 19) (v := ?v19_27) rfl (by kernel_rfl) (by kernel_rfl) (by kernel_rfl) (fun _ _ _ h => h) (Or.inl ⟨by rfl, ?h19_27⟩) hHeld ?r19_27
                      case h19_27 => (intro wS hSw; obtain ⟨s1, s2⟩ := hSw; go_simp; all_goals (with_reducible rfl))
                      simp only [Act.put, List.setIfInBounds_toArray, List.set_cons_zero, List.set_cons_succ]
                      refine wpAnyH_ready (rs := [12]) (by kernel_rfl) (by simp) ?_
                      refine do_drop (i := 12) rfl (fun K hK => ?_) AllReadyH.nil
                      go_simp
                      refine hK.out _ _ hHeld ?_
                      clear hK K
                      try simp only [Act.put, List.setIfInBounds_toArray, List.set_cons_zero, List.set_cons_succ]
                      refine take_drop (i := 13) (v := ?v13_28) rfl (by kernel_rfl) (by kernel_rfl) (by kernel_rfl) (fun _ _ _ h => h) (Or.inl ⟨by rfl, ?h13_28⟩) hHeld ?r13_28
                      case h13_28 => (intro wS hSw; obtain ⟨s1, s2⟩ := hSw; go_simp; all_goals (with_reducible rfl))
                      simp only [Act.put, List.setIfInBounds_toArray, List.set_cons_zero, List.set_cons_succ]
                      exact h1
                    refine do_drop (i := 12) rfl (fun K hK => ?_) ?_
                    · go_simp
                      refine hK.out _ _ hHeld ?_
                      clear hK K
                      try simp only [Act.put, List.setIfInBounds_toArray, List.set_cons_zero, List.set_cons_succ]
                      refine take_drop (i := 13) (v := ?v13_29) rfl (by kernel_rfl) (by kernel_rfl) (by kernel_rfl) (fun _ _ _ h => h) (Or.inl ⟨by rfl, ?h13_29⟩) hHeld ?r13_29
                      case h13_29 => (intro wS hSw; obtain ⟨s1, s2⟩ := hSw; go_simp; all_goals (with_reducible rfl))
                      simp only [Act.put, List.setIfInBounds_toArray, List.set_cons_zero, List.set_cons_succ]
                      refine wpAnyH_ready (rs := [7, 18]) (by kernel_rfl) (by simp) ?_
                      refine do_drop (i := 7) rfl (fun K hK => ?_) ?_
                      · go_simp
                        refine hK.out _ _ hHeld ?_
                        clear hK K
                        try simp only [Act.put, List.setIfInBounds_toArray, List.set_cons_zero, List.set_cons_succ]
                        refine wpAnyH_ready (rs := [18]) (by kernel_rfl) (by simp) ?_
                        refine do_drop (i := 18) rfl (fun K hK => ?_) AllReadyH.nil
                        go_simp
                        refine hK.out _ _ hHeld ?_
                        clear hK K
                        try simp only [Act.put, List.setIfInBounds_toArray, List.set_cons_zero, List.set_cons_succ]
                        refine take_drop (i := 19) (v := ?v19_31) rfl (by kernel_rfl) (by kernel_rfl) (by kernel_rfl) (fun _ _ _ h => h) (Or.inl ⟨by rfl, ?h19_31⟩) hHeld ?r19_31
                        case h19_31 => (intro wS hSw; obtain ⟨s1, s2⟩ := hSw; go_simp; all_goals (with_reducible rfl))
                        simp only [Act.put, List.setIfInBounds_toArray, List.set_cons_zero, List.set_cons_succ]
                        exact h1
                      refine do_drop (i := 18) rfl (fun K hK => ?_) AllReadyH.nil
                      go_simp
                      refine hK.out _ _ hHeld ?_
                      clear hK K
                      try simp only [Act.put, List.setIfInBounds_toArray, List.set_cons_zero, List.set_cons_succ]
                      refine take_drop (i := 19) (v := ?v19_32) rfl (by kernel_rfl) (by kernel_rfl) (by kernel_rfl) (fun _ _ _ h => h) (Or.inl ⟨by rfl, ?h19_32⟩) hHeld ?r19_32
                      case h19_32 => (intro wS hSw; obtain ⟨s1, s2⟩ := hSw; go_simp; all_goals (with_reducible rfl))
                      simp only [Act.put, List.setIfInBounds_toArray, List.set_cons_zero, List.set_cons_succ]
                      refine wpAnyH_ready (rs := [7]) (by kernel_rfl) (by simp) ?_
                      refine do_drop (i := 7) rfl (fun K hK => ?_) AllReadyH.nil
                      go_simp
                      refine hK.out _ _ hHeld ?_
                      clear hK K
                      try simp only [Act.put, List.setIfInBounds_toArray, List.set_cons_zero, List.set_cons_succ]
                      exact h1
                    refine do_drop (i := 18) rfl (fun K hK => ?_) AllReadyH.nil
                    go_simp
                    refine hK.out _ _ hHeld ?_
                    clear hK K
                    try simp only [Act.put, List.setIfInBounds_toArray, List.set_cons_zero, List.set_cons_succ]
                    refine take_drop (i := 19) (v := ?v19_34) rfl (by kernel_rfl) (by kernel_rfl) (by kernel_rfl) (fun _ _ _ h => h) (Or.inl ⟨by rfl, ?h19_34⟩) hHeld ?r19_34
                    case h19_34 => (intro wS hSw; obtain ⟨s1, s2⟩ := hSw; go_simp; all_goals (with_reducible rfl))
                    simp only [Act.put, List.setIfInBounds_toArray, List.set_cons_zero, List.set_cons_succ]
                    refine wpAnyH_ready (rs := [7, 12]) (by kernel_rfl) (by simp) ?_
                    refine do_drop (i := 7) rfl (fun K hK => ?_) ?_
                    · go_simp
                      refine hK.out _ _ hHeld ?_
                      clear hK K
                      try simp only [Act.put, List.setIfInBounds_toArray, List.set_cons_zero, List.set_cons_succ]
                      refine wpAnyH_ready (rs := [12]) (by kernel_rfl) (by simp) ?_
                      refine do_drop (i := 12) rfl (fun K hK => ?_) AllReadyH.nil
                      go_simp
                      refine hK.out _ _ hHeld ?_
                      clear hK K
                      try simp only [Act.put, List.setIfInBounds_toArray, List.set_cons_zero, List.set_cons_succ]
                      refine take_drop (i := 13) (v := ?v13_36) rfl (by kernel_rfl) (by kernel_rfl) (by kernel_rfl) (fun _ _ _ h => h) (Or.inl ⟨by rfl, ?h13_36⟩) hHeld ?r13_36
                      case h13_36 => (intro wS hSw; obtain ⟨s1, s2⟩ := hSw; go_simp; all_goals (with_reducible rfl))
                      simp only [Act.put, List.setIfInBounds_toArray, List.set_cons_zero, List.set_cons_succ]
                      exact h1
                    refine do_drop (i := 12) rfl (fun K hK => ?_) AllReadyH.nil
                    go_simp
                    refine hK.out _ _ hHeld ?_
                    clear hK K
                    try simp only [Act.put, List.setIfInBounds_toArray, List.set_cons_zero, List.set_cons_succ]
                    refine take_drop (i := 13) (v := ?v13_37) rfl (by kernel_rfl) (by kernel_rfl) (by kernel_rfl) (fun _ _ _ h => h) (Or.inl ⟨by rfl, ?h13_37⟩) hHeld ?r13_37
                    case h13_37 => (intro wS hSw; obtain ⟨s1, s2⟩ := hSw; go_simp; all_goals (with_reducible rfl))
                    simp only [Act.put, List.setIfInBounds_toArray, List.set_cons_zero, List.set_cons_succ]
                    refine wpAnyH_ready (rs := [7]) (by kernel_rfl) (by simp) ?_
                    refine do_drop (i := 7) rfl (fun K hK => ?_) AllReadyH.nil
                    go_simp
                    refine hK.out _ _ hHeld ?_
                    clear hK K
                    try simp only [Act.put, List.setIfInBounds_toArray, List.set_cons_zero, List.set_cons_succ]
                    exact h1
                  case gG22 =>
                    refine take_drop (i := 20) (v := ?v20_39) rfl (by kernel_rfl) (by kernel_rfl) (by kernel_rfl) (fun _ _ _ h => h) (Or.inl ⟨by rfl, ?h20_39⟩) hHeld ?r20_39
                    case h20_39 => (intro wS hSw; obtain ⟨s1, s2⟩ := hSw; go_simp; all_goals (with_reducible rfl))
                    simp only [Act.put, List.setIfInBounds_toArray, List.set_cons_zero, List.set_cons_succ]
                    refine wpAnyH_ready (rs := [23]) (by kernel_rfl) (by simp) ?_
                    refine do_drop (i := 23) rfl (fun K hK => ?_) AllReadyH.nil
                    rw [if_pos (by rfl)]
                    refine oper_append_run _ _ 31 rfl rfl rfl HRUN.out ?_
                    refine hK.out _ _ ⟨v19, v49⟩ ?_
                    clear hK K
                    try simp only [Act.put, List.setIfInBounds_toArray, List.set_cons_zero, List.set_cons_succ]
                    have hS9 := And.intro v19 v49
                    refine take_drop (i := 24) (v := ?v24_39) rfl (by kernel_rfl) (by kernel_rfl) (by kernel_rfl) (fun _ _ _ h => h) (Or.inl ⟨by rfl, ?h24_39⟩) hS9 ?r24_39
                    case h24_39 => (intro wS hSw; obtain ⟨s1, s2⟩ := hSw; go_simp; all_goals (with_reducible rfl))
                    simp only [Act.put, List.setIfInBounds_toArray, List.set_cons_zero, List.set_cons_succ]
                    refine wpAnyH_ready (rs := [25]) (by kernel_rfl) (by simp) ?_
                    refine do_drop (i := 25) rfl (fun K hK => ?_) AllReadyH.nil
                    go_simp
                    refine hK.out _ _ ⟨v1s, v4s⟩ ?_
                    clear hK K
                    try simp only [Act.put, List.setIfInBounds_toArray, List.set_cons_zero, List.set_cons_succ]
                    refine wpAnyH_done (by kernel_rfl) ?_ _
                    clear hHeld hS9 v1 v4 v19 v49 v1s v4s cL8 gL8 cL9 gL9 hcut
                    go_wp2_with fail
                    go_roundw
                    case rel => exact ⟨j + 1, F7, m7, _, fs, _, by simp, by omega, HO10.out, HK10.out, HR10.out, hd7⟩
                    case measure => simp [intOf]; omega
            · have hR := HKR.out.same (appM_zs h0)
              have ep : ptrM m7 (q : Int) = (AL : Int) := by
                have e1 : m7.zs = m.zs := by rw [← HM7.out]; exact appM_zs h0
                have e2 : hasZ m7 (q : Int) = true := hasZ_iff.2 ⟨by omega, by rw [e1]; exact (hasZ_iff.1 hqm).2⟩
                unfold ptrM
                rw [if_pos e2, zoneM_nat, e1, ← zoneM_nat, HZB.out, HAL.out]
              have hE0 : E = appErr m (q : Int) xd := by rw [← HE.out, cmdR_err h0]
              rw [HM7.out] at hR
              have HR7 := Lib.hid hR
              clear hR hqm
              by_cases hdz : dn = 0
              · have hxd : xd = [] := List.eq_nil_of_length_eq_zero (by rw [HDN.out]; exact hdz)
                have HAPP : Hid (appErr m (q : Int) xd = 0 ∨ xd = []) := Lib.hid (.inr hxd)
                have HPT : Hid (∀ w, OwnZ D W1 w d F7 m7 → Calls Try.prog 12 #[.pointer (some ⟨d, 0, none⟩), .int .i64 (q : Int)] w (ToldZ D W1 w d F7 m7 (.int .i64 ((AL : Int) + (dn : Int))))) := Lib.hid fun w h => by have := HPT0.out w h; rw [ep] at this; rw [hdz]; exact this
                have dE0 : (E == 0) = false := by rw [beq_eq_false_iff_ne, hE0]; exact h0
                clear h0 ep hdz hxd
                by_cases hE7 : E = 74
                · subst hE7
                  clear hE0 dE0
                  go_wp2_with fail
                  as_aux_lemma =>
                    refine wp_region_held_drew (S := fun w' => w'.cell? ⟨ob, 1, none⟩ = some (.int .i64 (q : Int)) ∧ w'.cell? ⟨W.heap.size, 0, none⟩ = some (.int .i64 (Z : Int)) ∧ w'.cell? ⟨ob, 4, none⟩ = some (.slice xda dn xdc) ∧ w'.cell? ⟨L, q, none⟩ = some (.slice ta AL tc)) (by kernel_rfl) ⟨z1, z0, z4, zL⟩ (fun hHeld => ?_)
                    refine take_drop (i := 0) (v := ?v0_59) rfl (by kernel_rfl) (by kernel_rfl) (by kernel_rfl) (fun _ _ _ h => h) (Or.inl ⟨by rfl, ?h0_59⟩) hHeld ?r0_59
                    case h0_59 => (intro wS hSw; obtain ⟨s1, s2, s3, s4⟩ := hSw; go_simp; all_goals (with_reducible rfl))
                    simp only [Act.put, List.setIfInBounds_toArray, List.set_cons_zero, List.set_cons_succ]
                    refine take_drop (i := 1) (v := ?v1_59) rfl (by kernel_rfl) (by kernel_rfl) (by kernel_rfl) (fun _ _ _ h => h) (Or.inl ⟨by rfl, ?h1_59⟩) hHeld ?r1_59
                    case h1_59 => (intro wS hSw; obtain ⟨s1, s2, s3, s4⟩ := hSw; go_simp; all_goals (with_reducible rfl))
                    simp only [Act.put, List.setIfInBounds_toArray, List.set_cons_zero, List.set_cons_succ]
                    refine take_drop (i := 2) (v := ?v2_59) rfl (by kernel_rfl) (by kernel_rfl) (by kernel_rfl) (fun _ _ _ h => h) (Or.inl ⟨by rfl, ?h2_59⟩) hHeld ?r2_59
                    case h2_59 => (intro wS hSw; obtain ⟨s1, s2, s3, s4⟩ := hSw; go_simp; all_goals (with_reducible rfl))
                    simp only [Act.put, List.setIfInBounds_toArray, List.set_cons_zero, List.set_cons_succ]
                    refine take_drop (i := 3) (v := ?v3_59) rfl (by kernel_rfl) (by kernel_rfl) (by kernel_rfl) (fun _ _ _ h => h) (Or.inl ⟨by rfl, ?h3_59⟩) hHeld ?r3_59
                    case h3_59 => (intro wS hSw; obtain ⟨s1, s2, s3, s4⟩ := hSw; go_simp; all_goals (with_reducible rfl))
                    simp only [Act.put, List.setIfInBounds_toArray, List.set_cons_zero, List.set_cons_succ]
                    refine take_drop (i := 4) (v := ?v4_59) rfl (by kernel_rfl) (by kernel_rfl) (by kernel_rfl) (fun _ _ _ h => h) (Or.inl ⟨by rfl, ?h4_59⟩) hHeld ?r4_59
                    case h4_59 => (intro wS hSw; obtain ⟨s1, s2, s3, s4⟩ := hSw; go_simp; all_goals (with_reducible rfl))
                    simp only [Act.put, List.setIfInBounds_toArray, List.set_cons_zero, List.set_cons_succ]
                    refine take_drop (i := 5) (v := ?v5_59) rfl (by kernel_rfl) (by kernel_rfl) (by kernel_rfl) (fun _ _ _ h => h) (Or.inl ⟨by rfl, ?h5_59⟩) hHeld ?r5_59
                    case h5_59 => (intro wS hSw; obtain ⟨s1, s2, s3, s4⟩ := hSw; go_simp; all_goals (with_reducible rfl))
                    simp only [Act.put, List.setIfInBounds_toArray, List.set_cons_zero, List.set_cons_succ]
                    refine take_drop (i := 6) (v := ?v6_59) rfl (by kernel_rfl) (by kernel_rfl) (by kernel_rfl) (fun _ _ _ h => h) (Or.inl ⟨by rfl, ?h6_59⟩) hHeld ?r6_59
                    case h6_59 => (intro wS hSw; obtain ⟨s1, s2, s3, s4⟩ := hSw; go_simp; all_goals (with_reducible rfl))
                    simp only [Act.put, List.setIfInBounds_toArray, List.set_cons_zero, List.set_cons_succ]
                    refine take_drop (i := 7) (v := ?v7_59) rfl (by kernel_rfl) (by kernel_rfl) (by kernel_rfl) (fun _ _ _ h => h) (Or.inl ⟨by rfl, ?h7_59⟩) hHeld ?r7_59
                    case h7_59 => (intro wS hSw; obtain ⟨s1, s2, s3, s4⟩ := hSw; go_simp; all_goals (with_reducible rfl))
                    simp only [Act.put, List.setIfInBounds_toArray, List.set_cons_zero, List.set_cons_succ]
                    refine take_drop (i := 8) (v := ?v8_59) rfl (by kernel_rfl) (by kernel_rfl) (by kernel_rfl) (fun _ _ _ h => h) (Or.inl ⟨by rfl, ?h8_59⟩) hHeld ?r8_59
                    case h8_59 => (intro wS hSw; obtain ⟨s1, s2, s3, s4⟩ := hSw; go_simp; all_goals (with_reducible rfl))
                    simp only [Act.put, List.setIfInBounds_toArray, List.set_cons_zero, List.set_cons_succ]
                    refine take_drop (i := 9) (v := ?v9_59) rfl (by kernel_rfl) (by kernel_rfl) (by kernel_rfl) (fun _ _ _ h => h) (Or.inl ⟨by rfl, ?h9_59⟩) hHeld ?r9_59
                    case h9_59 => (intro wS hSw; obtain ⟨s1, s2, s3, s4⟩ := hSw; go_simp; all_goals (with_reducible rfl))
                    simp only [Act.put, List.setIfInBounds_toArray, List.set_cons_zero, List.set_cons_succ]
                    refine take_drop (i := 10) (v := ?v10_59) rfl (by kernel_rfl) (by kernel_rfl) (by kernel_rfl) (fun _ _ _ h => h) (Or.inl ⟨by rfl, ?h10_59⟩) hHeld ?r10_59
                    case h10_59 => (intro wS hSw; obtain ⟨s1, s2, s3, s4⟩ := hSw; go_simp; all_goals (with_reducible rfl))
                    simp only [Act.put, List.setIfInBounds_toArray, List.set_cons_zero, List.set_cons_succ]
                    refine take_drop (i := 11) (v := ?v11_59) rfl (by kernel_rfl) (by kernel_rfl) (by kernel_rfl) (fun _ _ _ h => h) (Or.inl ⟨by rfl, ?h11_59⟩) hHeld ?r11_59
                    case h11_59 => (intro wS hSw; obtain ⟨s1, s2, s3, s4⟩ := hSw; go_simp; all_goals (with_reducible rfl))
                    simp only [Act.put, List.setIfInBounds_toArray, List.set_cons_zero, List.set_cons_succ]
                    refine take_drop (i := 12) (v := ?v12_59) rfl (by kernel_rfl) (by kernel_rfl) (by kernel_rfl) (fun _ _ _ h => h) (Or.inl ⟨by rfl, ?h12_59⟩) hHeld ?r12_59
                    case h12_59 => (intro wS hSw; obtain ⟨s1, s2, s3, s4⟩ := hSw; go_simp; all_goals (with_reducible rfl))
                    simp only [Act.put, List.setIfInBounds_toArray, List.set_cons_zero, List.set_cons_succ]
                    refine take_drop (i := 13) (v := ?v13_59) rfl (by kernel_rfl) (by kernel_rfl) (by kernel_rfl) (fun _ _ _ h => h) (Or.inl ⟨by rfl, ?h13_59⟩) hHeld ?r13_59
                    case h13_59 => (intro wS hSw; obtain ⟨s1, s2, s3, s4⟩ := hSw; go_simp; all_goals (with_reducible rfl))
                    simp only [Act.put, List.setIfInBounds_toArray, List.set_cons_zero, List.set_cons_succ]
                    refine take_drop (i := 15) (v := ?v15_59) rfl (by kernel_rfl) (by kernel_rfl) (by kernel_rfl) (fun _ _ _ h => h) (Or.inl ⟨by rfl, ?h15_59⟩) hHeld ?r15_59
                    case h15_59 => (intro wS hSw; obtain ⟨s1, s2, s3, s4⟩ := hSw; go_simp; all_goals (with_reducible rfl))
                    simp only [Act.put, List.setIfInBounds_toArray, List.set_cons_zero, List.set_cons_succ]
                    refine take_drop (i := 16) (v := ?v16_59) rfl (by kernel_rfl) (by kernel_rfl) (by kernel_rfl) (fun _ _ _ h => h) (Or.inl ⟨by rfl, ?h16_59⟩) hHeld ?r16_59
                    case h16_59 => (intro wS hSw; obtain ⟨s1, s2, s3, s4⟩ := hSw; go_simp; all_goals (with_reducible rfl))
                    simp only [Act.put, List.setIfInBounds_toArray, List.set_cons_zero, List.set_cons_succ]
                    refine take_drop (i := 17) (v := ?v17_59) rfl (by kernel_rfl) (by kernel_rfl) (by kernel_rfl) (fun _ _ _ h => h) (Or.inl ⟨by rfl, ?h17_59⟩) hHeld ?r17_59
                    case h17_59 => (intro wS hSw; obtain ⟨s1, s2, s3, s4⟩ := hSw; go_simp; all_goals (with_reducible rfl))
                    simp only [Act.put, List.setIfInBounds_toArray, List.set_cons_zero, List.set_cons_succ]
                    refine take_drop (i := 18) (v := ?v18_59) rfl (by kernel_rfl) (by kernel_rfl) (by kernel_rfl) (fun _ _ _ h => h) (Or.inl ⟨by rfl, ?h18_59⟩) hHeld ?r18_59
                    case h18_59 => (intro wS hSw; obtain ⟨s1, s2, s3, s4⟩ := hSw; go_simp; all_goals (with_reducible rfl))
                    simp only [Act.put, List.setIfInBounds_toArray, List.set_cons_zero, List.set_cons_succ]
                    refine take_drop (i := 19) (v := ?v19_59) rfl (by kernel_rfl) (by kernel_rfl) (by kernel_rfl) (fun _ _ _ h => h) (Or.inl ⟨by rfl, ?h19_59⟩) hHeld ?r19_59
                    case h19_59 => (intro wS hSw; obtain ⟨s1, s2, s3, s4⟩ := hSw; go_simp; all_goals (with_reducible rfl))
                    simp only [Act.put, List.setIfInBounds_toArray, List.set_cons_zero, List.set_cons_succ]
                    refine take_drop (i := 20) (v := ?v20_59) rfl (by kernel_rfl) (by kernel_rfl) (by kernel_rfl) (fun _ _ _ h => h) (Or.inl ⟨by rfl, ?h20_59⟩) hHeld ?r20_59
                    case h20_59 => (intro wS hSw; obtain ⟨s1, s2, s3, s4⟩ := hSw; go_simp; all_goals (with_reducible rfl))
                    simp only [Act.put, List.setIfInBounds_toArray, List.set_cons_zero, List.set_cons_succ]
                    refine take_drop (i := 21) (v := ?v21_59) rfl (by kernel_rfl) (by kernel_rfl) (by kernel_rfl) (fun _ _ _ h => h) (Or.inl ⟨by rfl, ?h21_59⟩) hHeld ?r21_59
                    case h21_59 => (intro wS hSw; obtain ⟨s1, s2, s3, s4⟩ := hSw; go_simp; all_goals (with_reducible rfl))
                    simp only [Act.put, List.setIfInBounds_toArray, List.set_cons_zero, List.set_cons_succ]
                    refine take_drop (i := 22) (v := ?v22_59) rfl (by kernel_rfl) (by kernel_rfl) (by kernel_rfl) (fun _ _ _ h => h) (Or.inl ⟨by rfl, ?h22_59⟩) hHeld ?r22_59
                    case h22_59 => (intro wS hSw; obtain ⟨s1, s2, s3, s4⟩ := hSw; go_simp; all_goals (with_reducible rfl))
                    simp only [Act.put, List.setIfInBounds_toArray, List.set_cons_zero, List.set_cons_succ]
                    refine take_drop (i := 23) (v := ?v23_59) rfl (by kernel_rfl) (by kernel_rfl) (by kernel_rfl) (fun _ _ _ h => h) (Or.inl ⟨by rfl, ?h23_59⟩) hHeld ?r23_59
                    case h23_59 => (intro wS hSw; obtain ⟨s1, s2, s3, s4⟩ := hSw; go_simp; all_goals (with_reducible rfl))
                    simp only [Act.put, List.setIfInBounds_toArray, List.set_cons_zero, List.set_cons_succ]
                    refine take_drop (i := 24) (v := ?v24_59) rfl (by kernel_rfl) (by kernel_rfl) (by kernel_rfl) (fun _ _ _ h => h) (Or.inl ⟨by rfl, ?h24_59⟩) hHeld ?r24_59
                    case h24_59 => (intro wS hSw; obtain ⟨s1, s2, s3, s4⟩ := hSw; go_simp; all_goals (with_reducible rfl))
                    simp only [Act.put, List.setIfInBounds_toArray, List.set_cons_zero, List.set_cons_succ]
                    refine wpAnyH_ready (rs := [14]) (by kernel_rfl) (by simp) ?_
                    refine do_drop (i := 14) rfl (fun K hK => ?_) AllReadyH.nil
                    go_simp
                    refine (HPT.out _ HOD.out).mono ?_
                    rintro e w8 ⟨rfl, hO8, f8⟩
                    have y1 := f8.cell z1 (fun h => h)
                    have y0 := f8.cell z0 (fun h => h)
                    have y4 := f8.cell z4 (fun h => h)
                    have yL := f8.cell zL (fun h => h)
                    have HO8 := Lib.hid hO8
                    have HK8 := Lib.hid (HKD.out.tell f8)
                    have HA8 := Lib.hid (HAD.out.keep f8 (fun h => h))
                    clear hO8 f8
                    refine hK.out _ _ ⟨y1, y0, y4, yL⟩ ?_
                    clear hK K
                    try simp only [Act.put, List.setIfInBounds_toArray, List.set_cons_zero, List.set_cons_succ]
                    have hS8 := And.intro y1 (And.intro y0 (And.intro y4 yL))
                    clear hHeld
                    refine take_drop (i := 25) (v := ?v25_59) rfl (by kernel_rfl) (by kernel_rfl) (by kernel_rfl) (fun _ _ _ h => h) (Or.inl ⟨by rfl, ?h25_59⟩) hS8 ?r25_59
                    case h25_59 => (intro wS hSw; obtain ⟨s1, s2, s3, s4⟩ := hSw; go_simp; all_goals (with_reducible rfl))
                    simp only [Act.put, List.setIfInBounds_toArray, List.set_cons_zero, List.set_cons_succ]
                    refine take_drop (i := 26) (v := ?v26_59) rfl (by kernel_rfl) (by kernel_rfl) (by kernel_rfl) (fun _ _ _ h => h) (Or.inl ⟨by rfl, ?h26_59⟩) hS8 ?r26_59
                    case h26_59 => (intro wS hSw; obtain ⟨s1, s2, s3, s4⟩ := hSw; go_simp; all_goals (with_reducible rfl))
                    simp only [Act.put, List.setIfInBounds_toArray, List.set_cons_zero, List.set_cons_succ]
                    refine take_drop (i := 27) (v := ?v27_59) rfl (by kernel_rfl) (by kernel_rfl) (by kernel_rfl) (fun _ _ _ h => h) (Or.inl ⟨by rfl, ?h27_59⟩) hS8 ?r27_59
                    case h27_59 => (intro wS hSw; obtain ⟨s1, s2, s3, s4⟩ := hSw; go_simp; all_goals (with_reducible rfl))
                    simp only [Act.put, List.setIfInBounds_toArray, List.set_cons_zero, List.set_cons_succ]
                    refine take_drop (i := 28) (v := ?v28_59) rfl (by kernel_rfl) (by kernel_rfl) (by kernel_rfl) (fun _ _ _ h => h) (Or.inl ⟨by rfl, ?h28_59⟩) hS8 ?r28_59
                    case h28_59 => (intro wS hSw; obtain ⟨s1, s2, s3, s4⟩ := hSw; go_simp; all_goals (with_reducible rfl))
                    simp only [Act.put, List.setIfInBounds_toArray, List.set_cons_zero, List.set_cons_succ]
                    refine take_drop (i := 29) (v := ?v29_59) rfl (by kernel_rfl) (by kernel_rfl) (by kernel_rfl) (fun _ _ _ h => h) (Or.inl ⟨by rfl, ?h29_59⟩) hS8 ?r29_59
                    case h29_59 => (intro wS hSw; obtain ⟨s1, s2, s3, s4⟩ := hSw; go_simp; all_goals (with_reducible rfl))
                    simp only [Act.put, List.setIfInBounds_toArray, List.set_cons_zero, List.set_cons_succ]
                    refine take_drop (i := 30) (v := ?v30_59) rfl (by kernel_rfl) (by kernel_rfl) (by kernel_rfl) (fun _ _ _ h => h) (Or.inl ⟨by rfl, ?h30_59⟩) hS8 ?r30_59
                    case h30_59 => (intro wS hSw; obtain ⟨s1, s2, s3, s4⟩ := hSw; go_simp; all_goals (with_reducible rfl))
                    simp only [Act.put, List.setIfInBounds_toArray, List.set_cons_zero, List.set_cons_succ]
                    refine take_drop (i := 31) (v := ?v31_59) rfl (by kernel_rfl) (by kernel_rfl) (by kernel_rfl) (fun _ _ _ h => h) (Or.inl ⟨by rfl, ?h31_59⟩) hS8 ?r31_59
                    case h31_59 => (intro wS hSw; obtain ⟨s1, s2, s3, s4⟩ := hSw; go_simp; all_goals (with_reducible rfl))
                    simp only [Act.put, List.setIfInBounds_toArray, List.set_cons_zero, List.set_cons_succ]
                    refine take_drop (i := 32) (v := ?v32_59) rfl (by kernel_rfl) (by kernel_rfl) (by kernel_rfl) (fun _ _ _ h => h) (Or.inl ⟨by rfl, ?h32_59⟩) hS8 ?r32_59
                    case h32_59 => (intro wS hSw; obtain ⟨s1, s2, s3, s4⟩ := hSw; go_simp; all_goals (with_reducible rfl))
                    simp only [Act.put, List.setIfInBounds_toArray, List.set_cons_zero, List.set_cons_succ]
                    refine take_drop (i := 33) (v := ?v33_59) rfl (by kernel_rfl) (by kernel_rfl) (by kernel_rfl) (fun _ _ _ h => h) (Or.inl ⟨by rfl, ?h33_59⟩) hS8 ?r33_59
                    case h33_59 => (intro wS hSw; obtain ⟨s1, s2, s3, s4⟩ := hSw; go_simp; all_goals (with_reducible rfl))
                    simp only [Act.put, List.setIfInBounds_toArray, List.set_cons_zero, List.set_cons_succ]
                    refine take_drop (i := 34) (v := ?v34_59) rfl (by kernel_rfl) (by kernel_rfl) (by kernel_rfl) (fun _ _ _ h => h) (Or.inl ⟨by rfl, ?h34_59⟩) hS8 ?r34_59
                    case h34_59 => (intro wS hSw; obtain ⟨s1, s2, s3, s4⟩ := hSw; go_simp; all_goals (with_reducible rfl))
                    simp only [Act.put, List.setIfInBounds_toArray, List.set_cons_zero, List.set_cons_succ]
                    refine wpAnyH_done (by kernel_rfl) ?_ _
                    clear hS8 z0 z1 z4 zL y0 y1 y4 yL
                    go_wp2_with fail
                    have hta := HTA.out
                    have htb := HTB.out
                    have htc := HTC.out
                    have hm7 := HM7.out
                    have gL8 := (HK8.out.cellL hq).2
                    have cL8 := (HK8.out.cellL hq).1
                    rw [hta, htb, htc, HAL.out] at cL8
                    have v1 : w8.drew.cell? ⟨ob, 1, none⟩ = some (.int .i64 (q : Int)) := HA8.out.cell 1
                    have v4 : w8.drew.cell? ⟨ob, 4, none⟩ = some (.slice xda dn xdc) := HA8.out.cell 4
                    have cL8d := cL8
                    have hel := HK8.out.el q hq
                    rw [hta, htb, htc] at hel
                    obtain ⟨hel1, hel2, hel3⟩ := hel
                    rw [HAL.out] at hel1
                    have hcut := cut_own ta AL tc hel1
                    obtain ⟨a9, c9, w9, hrun, h9a, h9b, h9c, f9⟩ := grow_bytes w8.drew ta tb (hel3.keep (Fr.refl No w8).drew (fun _ _ h => h)) xda xdc xd ((In.of_rd HDL.out.2.2).keep (HO8.out.fr.drew) (fun _ _ h => h)) (by rw [HAL.out, HDN.out]; have h3 := (zoneM_ok HO1.out.wf (q : Int)).l; have h4 := HO1.out.wf.s64; rw [HZB.out, HAL.out] at h3; have := HSZ.out.1; rw [HDN.out] at this; omega)
                    rw [HAL.out, HDN.out] at hrun
                    obtain ⟨n9, hn9⟩ : ∃ x, (tb ++ xd).length = x := ⟨_, rfl⟩
                    rw [hn9] at hrun h9a
                    have HRUN := Lib.hid hrun
                    have hK9 := HK8.out.tell (((Fr.refl No w8).drew).trans f9)
                    obtain ⟨cL9, gL9⟩ := hK9.cellL hq
                    rw [hta, htb, htc, HAL.out] at cL9
                    have hs10 := hK9.setL (X' := Gr X w8.drew w9) hq ⟨a9, c9, tb ++ xd⟩ (by show (tb ++ xd).length ≤ c9; rw [hn9]; exact h9a) h9b h9c (fun _ h => .inl h) (fun k hk => hk.elim (hK9.hi k) (fun h => h.2)) (fun k hk => hk.elim (hK9.ap k) (fun h => ⟨HO8.out.low HM.out k h.1, fun e => by have := HK8.out.la.lt; rw [← e] at this; exact absurd (show w8.heap.size ≤ k from h.1) (by omega), fun e => by have := HK8.out.sa.lt; rw [← e] at this; exact absurd (show w8.heap.size ≤ k from h.1) (by omega)⟩))
                    rw [show (⟨a9, c9, tb ++ xd⟩ : Tx).b.length = n9 from hn9] at hs10
                    have HO10 := Lib.hid ((HO8.out.keep HM.out (((Fr.refl No w8).drew).trans f9)).keepK HM.out hs10.2 (fun k hk e => hK9.nl ((show k = L from e) ▸ hk)) (fun k e => by rw [show k = L from e]; exact hK9.lw))
                    have HK10 := Lib.hid hs10.1
                    have v19 := f9.cell (p := ⟨ob, 1, none⟩) v1 (fun h => h)
                    have v49 := f9.cell (p := ⟨ob, 4, none⟩) v4 (fun h => h)
                    have v1s := hs10.2.cell v19 (fun e => HNL.out.1 e)
                    have v4s := hs10.2.cell v49 (fun e => HNL.out.1 e)
                    have HR10 := Lib.hid (HKR.out.app hq xd ⟨a9, c9, tb ++ xd⟩ (by show tb ++ xd = _; rw [htb]) HAPP.out)
                    rw [hm7] at HR10
                    clear hta htb htc hm7
                    clear hrun hK9 hs10 h9a h9b h9c f9 hel1 hel2 hel3 hn9
                    refine wp_region_held_drew (S := fun w' => w'.cell? ⟨ob, 1, none⟩ = some (.int .i64 (q : Int)) ∧ w'.cell? ⟨ob, 4, none⟩ = some (.slice xda dn xdc)) (by kernel_rfl) ⟨v1, v4⟩ (fun hHeld => ?_)
                    refine take_drop (i := 0) (v := ?v0_42) rfl (by kernel_rfl) (by kernel_rfl) (by kernel_rfl) (fun _ _ _ h => h) (Or.inl ⟨by rfl, ?h0_42⟩) hHeld ?r0_42
                    case h0_42 => (intro wS hSw; obtain ⟨s1, s2⟩ := hSw; go_simp; all_goals (with_reducible rfl))
                    simp only [Act.put, List.setIfInBounds_toArray, List.set_cons_zero, List.set_cons_succ]
                    refine take_drop (i := 1) (v := ?v1_42) rfl (by kernel_rfl) (by kernel_rfl) (by kernel_rfl) (fun _ _ _ h => h) (Or.inl ⟨by rfl, ?h1_42⟩) hHeld ?r1_42
                    case h1_42 => (intro wS hSw; obtain ⟨s1, s2⟩ := hSw; go_simp; all_goals (with_reducible rfl))
                    simp only [Act.put, List.setIfInBounds_toArray, List.set_cons_zero, List.set_cons_succ]
                    refine take_drop (i := 2) (v := ?v2_42) rfl (by kernel_rfl) (by kernel_rfl) (by kernel_rfl) (fun _ _ _ h => h) (Or.inl ⟨by rfl, ?h2_42⟩) hHeld ?r2_42
                    case h2_42 => (intro wS hSw; obtain ⟨s1, s2⟩ := hSw; go_simp; all_goals (with_reducible rfl))
                    simp only [Act.put, List.setIfInBounds_toArray, List.set_cons_zero, List.set_cons_succ]
                    refine take_drop (i := 3) (v := ?v3_42) rfl (by kernel_rfl) (by kernel_rfl) (by kernel_rfl) (fun _ _ _ h => h) (Or.inl ⟨by rfl, ?h3_42⟩) hHeld ?r3_42
                    case h3_42 => (intro wS hSw; obtain ⟨s1, s2⟩ := hSw; go_simp; all_goals (with_reducible rfl))
                    simp only [Act.put, List.setIfInBounds_toArray, List.set_cons_zero, List.set_cons_succ]
                    refine take_drop (i := 4) (v := ?v4_42) rfl (by kernel_rfl) (by kernel_rfl) (by kernel_rfl) (fun _ _ _ h => h) (Or.inl ⟨by rfl, ?h4_42⟩) hHeld ?r4_42
                    case h4_42 => (intro wS hSw; obtain ⟨s1, s2⟩ := hSw; go_simp; all_goals (with_reducible rfl))
                    simp only [Act.put, List.setIfInBounds_toArray, List.set_cons_zero, List.set_cons_succ]
                    refine take_drop (i := 5) (v := ?v5_42) rfl (by kernel_rfl) (by kernel_rfl) (by kernel_rfl) (fun _ _ _ h => h) (Or.inl ⟨by rfl, ?h5_42⟩) hHeld ?r5_42
                    case h5_42 => (intro wS hSw; obtain ⟨s1, s2⟩ := hSw; go_simp; all_goals (with_reducible rfl))
                    simp only [Act.put, List.setIfInBounds_toArray, List.set_cons_zero, List.set_cons_succ]
                    refine take_drop (i := 6) (v := ?v6_42) rfl (by kernel_rfl) (by kernel_rfl) (by kernel_rfl) (fun _ _ _ h => h) (Or.inl ⟨by rfl, ?h6_42⟩) hHeld ?r6_42
                    case h6_42 => (intro wS hSw; obtain ⟨s1, s2⟩ := hSw; go_simp; all_goals (with_reducible rfl))
                    simp only [Act.put, List.setIfInBounds_toArray, List.set_cons_zero, List.set_cons_succ]
                    refine take_drop (i := 8) (v := ?v8_42) rfl (by kernel_rfl) (by kernel_rfl) (by kernel_rfl) (fun _ _ _ h => h) (Or.inl ⟨by rfl, ?h8_42⟩) hHeld ?r8_42
                    case h8_42 => (intro wS hSw; obtain ⟨s1, s2⟩ := hSw; go_simp; all_goals (with_reducible rfl))
                    simp only [Act.put, List.setIfInBounds_toArray, List.set_cons_zero, List.set_cons_succ]
                    refine take_drop (i := 9) (v := ?v9_42) rfl (by kernel_rfl) (by kernel_rfl) (by kernel_rfl) (fun _ _ _ h => h) (Or.inl ⟨by rfl, ?h9_42⟩) hHeld ?r9_42
                    case h9_42 => (intro wS hSw; obtain ⟨s1, s2⟩ := hSw; go_simp; all_goals (with_reducible rfl))
                    simp only [Act.put, List.setIfInBounds_toArray, List.set_cons_zero, List.set_cons_succ]
                    refine take_drop (i := 10) (v := ?v10_42) rfl (by kernel_rfl) (by kernel_rfl) (by kernel_rfl) (fun _ _ _ h => h) (Or.inl ⟨by rfl, ?h10_42⟩) hHeld ?r10_42
                    case h10_42 => (intro wS hSw; obtain ⟨s1, s2⟩ := hSw; go_simp; all_goals (with_reducible rfl))
                    simp only [Act.put, List.setIfInBounds_toArray, List.set_cons_zero, List.set_cons_succ]
                    refine take_drop (i := 11) (v := ?v11_42) rfl (by kernel_rfl) (by kernel_rfl) (by kernel_rfl) (fun _ _ _ h => h) (Or.inl ⟨by rfl, ?h11_42⟩) hHeld ?r11_42
                    case h11_42 => (intro wS hSw; obtain ⟨s1, s2⟩ := hSw; go_simp; all_goals (with_reducible rfl))
                    simp only [Act.put, List.setIfInBounds_toArray, List.set_cons_zero, List.set_cons_succ]
                    refine take_drop (i := 14) (v := ?v14_42) rfl (by kernel_rfl) (by kernel_rfl) (by kernel_rfl) (fun _ _ _ h => h) (Or.inl ⟨by rfl, ?h14_42⟩) hHeld ?r14_42
                    case h14_42 => (intro wS hSw; obtain ⟨s1, s2⟩ := hSw; go_simp; all_goals (with_reducible rfl))
                    simp only [Act.put, List.setIfInBounds_toArray, List.set_cons_zero, List.set_cons_succ]
                    refine take_drop (i := 15) (v := ?v15_42) rfl (by kernel_rfl) (by kernel_rfl) (by kernel_rfl) (fun _ _ _ h => h) (Or.inl ⟨by rfl, ?h15_42⟩) hHeld ?r15_42
                    case h15_42 => (intro wS hSw; obtain ⟨s1, s2⟩ := hSw; go_simp; all_goals (with_reducible rfl))
                    simp only [Act.put, List.setIfInBounds_toArray, List.set_cons_zero, List.set_cons_succ]
                    refine take_drop (i := 16) (v := ?v16_42) rfl (by kernel_rfl) (by kernel_rfl) (by kernel_rfl) (fun _ _ _ h => h) (Or.inl ⟨by rfl, ?h16_42⟩) hHeld ?r16_42
                    case h16_42 => (intro wS hSw; obtain ⟨s1, s2⟩ := hSw; go_simp; all_goals (with_reducible rfl))
                    simp only [Act.put, List.setIfInBounds_toArray, List.set_cons_zero, List.set_cons_succ]
                    refine take_drop (i := 17) (v := ?v17_42) rfl (by kernel_rfl) (by kernel_rfl) (by kernel_rfl) (fun _ _ _ h => h) (Or.inl ⟨by rfl, ?h17_42⟩) hHeld ?r17_42
                    case h17_42 => (intro wS hSw; obtain ⟨s1, s2⟩ := hSw; go_simp; all_goals (with_reducible rfl))
                    simp only [Act.put, List.setIfInBounds_toArray, List.set_cons_zero, List.set_cons_succ]
                    refine take_drop (i := 21) (v := ?v21_42) rfl (by kernel_rfl) (by kernel_rfl) (by kernel_rfl) (fun _ _ _ h => h) (Or.inl ⟨by rfl, ?h21_42⟩) hHeld ?r21_42
                    case h21_42 => (intro wS hSw; obtain ⟨s1, s2⟩ := hSw; go_simp; all_goals (with_reducible rfl))
                    simp only [Act.put, List.setIfInBounds_toArray, List.set_cons_zero, List.set_cons_succ]
                    refine take_drop (i := 22) (v := ?v22_42) rfl (by kernel_rfl) (by kernel_rfl) (by kernel_rfl) (fun _ _ _ h => h) (Or.inl ⟨by rfl, ?h22_42⟩) hHeld ?r22_42
                    case h22_42 => (intro wS hSw; obtain ⟨s1, s2⟩ := hSw; go_simp; all_goals (with_reducible rfl))
                    simp only [Act.put, List.setIfInBounds_toArray, List.set_cons_zero, List.set_cons_succ]
                    refine (fun (h1 : ?G41) => ?mG41) ?gG41
                    case mG41 =>
                      refine wpAnyH_ready (rs := [7, 12, 18]) (by kernel_rfl) (by simp) ?_
                      refine do_drop (i := 7) rfl (fun K hK => ?_) ?_
                      · go_simp
                        refine hK.out _ _ hHeld ?_
                        clear hK K
                        try simp only [Act.put, List.setIfInBounds_toArray, List.set_cons_zero, List.set_cons_succ]
                        refine wpAnyH_ready (rs := [12, 18]) (by kernel_rfl) (by simp) ?_
                        refine do_drop (i := 12) rfl (fun K hK => ?_) ?_
                        · go_simp
                          refine hK.out _ _ hHeld ?_
                          clear hK K
                          try simp only [Act.put, List.setIfInBounds_toArray, List.set_cons_zero, List.set_cons_succ]
                          refine take_drop (i := 13) (v := ?v13_44) rfl (by kernel_rfl) (by kernel_rfl) (by kernel_rfl) (fun _ _ _ h => h) (Or.inl ⟨by rfl, ?h13_44⟩) hHeld ?r13_44
                          case h13_44 => (intro wS hSw; obtain ⟨s1, s2⟩ := hSw; go_simp; all_goals (with_reducible rfl))
                          simp only [Act.put, List.setIfInBounds_toArray, List.set_cons_zero, List.set_cons_succ]
                          refine wpAnyH_ready (rs := [18]) (by kernel_rfl) (by simp) ?_
                          refine do_drop (i := 18) rfl (fun K hK => ?_) AllReadyH.nil
                          go_simp
                          refine hK.out _ _ hHeld ?_
                          clear hK K
                          try simp only [Act.put, List.setIfInBounds_toArray, List.set_cons_zero, List.set_cons_succ]
                          refine take_drop (i := 19) (v := ?v19_45) rfl (by kernel_rfl) (by kernel_rfl) (by kernel_rfl) (fun _ _ _ h => h) (Or.inl ⟨by rfl, ?h19_45⟩) hHeld ?r19_45
                          case h19_45 => (intro wS hSw; obtain ⟨s1, s2⟩ := hSw; go_simp; all_goals (with_reducible rfl))
                          simp only [Act.put, List.setIfInBounds_toArray, List.set_cons_zero, List.set_cons_succ]
                          exact h1
                        refine do_drop (i := 18) rfl (fun K hK => ?_) AllReadyH.nil
                        go_simp
                        refine hK.out _ _ hHeld ?_
                        clear hK K
                        try simp only [Act.put, List.setIfInBounds_toArray, List.set_cons_zero, List.set_cons_succ]
                        refine take_drop (i := 19) (v := ?v19_46) rfl (by kernel_rfl) (by kernel_rfl) (by kernel_rfl) (fun _ _ _ h => h) (Or.inl ⟨by rfl, ?h19_46⟩) hHeld ?r19_46
                        case h19_46 => (intro wS hSw; obtain ⟨s1, s2⟩ := hSw; go_simp; all_goals (with_reducible rfl))
                        simp only [Act.put, List.setIfInBounds_toArray, List.set_cons_zero, List.set_cons_succ]
                        refine wpAnyH_ready (rs := [12]) (by kernel_rfl) (by simp) ?_
                        refine do_drop (i := 12) rfl (fun K hK => ?_) AllReadyH.nil
                        go_simp
                        refine hK.out _ _ hHeld ?_
                        clear hK K
                        try simp only [Act.put, List.setIfInBounds_toArray, List.set_cons_zero, List.set_cons_succ]
                        refine take_drop (i := 13) (v := ?v13_47) rfl (by kernel_rfl) (by kernel_rfl) (by kernel_rfl) (fun _ _ _ h => h) (Or.inl ⟨by rfl, ?h13_47⟩) hHeld ?r13_47
                        case h13_47 => (intro wS hSw; obtain ⟨s1, s2⟩ := hSw; go_simp; all_goals (with_reducible rfl))
                        simp only [Act.put, List.setIfInBounds_toArray, List.set_cons_zero, List.set_cons_succ]
                        exact h1
                      refine do_drop (i := 12) rfl (fun K hK => ?_) ?_
                      · go_simp
                        refine hK.out _ _ hHeld ?_
                        clear hK K
                        try simp only [Act.put, List.setIfInBounds_toArray, List.set_cons_zero, List.set_cons_succ]
                        refine take_drop (i := 13) (v := ?v13_48) rfl (by kernel_rfl) (by kernel_rfl) (by kernel_rfl) (fun _ _ _ h => h) (Or.inl ⟨by rfl, ?h13_48⟩) hHeld ?r13_48
                        case h13_48 => (intro wS hSw; obtain ⟨s1, s2⟩ := hSw; go_simp; all_goals (with_reducible rfl))
                        simp only [Act.put, List.setIfInBounds_toArray, List.set_cons_zero, List.set_cons_succ]
                        refine wpAnyH_ready (rs := [7, 18]) (by kernel_rfl) (by simp) ?_
                        refine do_drop (i := 7) rfl (fun K hK => ?_) ?_
                        · go_simp
                          refine hK.out _ _ hHeld ?_
                          clear hK K
                          try simp only [Act.put, List.setIfInBounds_toArray, List.set_cons_zero, List.set_cons_succ]
                          refine wpAnyH_ready (rs := [18]) (by kernel_rfl) (by simp) ?_
                          refine do_drop (i := 18) rfl (fun K hK => ?_) AllReadyH.nil
                          go_simp
                          refine hK.out _ _ hHeld ?_
                          clear hK K
                          try simp only [Act.put, List.setIfInBounds_toArray, List.set_cons_zero, List.set_cons_succ]
                          refine take_drop (i := 19) (v := ?v19_50) rfl (by kernel_rfl) (by kernel_rfl) (by kernel_rfl) (fun _ _ _ h => h) (Or.inl ⟨by rfl, ?h19_50⟩) hHeld ?r19_50
                          case h19_50 => (intro wS hSw; obtain ⟨s1, s2⟩ := hSw; go_simp; all_goals (with_reducible rfl))
                          simp only [Act.put, List.setIfInBounds_toArray, List.set_cons_zero, List.set_cons_succ]
                          exact h1
                        refine do_drop (i := 18) rfl (fun K hK => ?_) AllReadyH.nil
                        go_simp
                        refine hK.out _ _ hHeld ?_
                        clear hK K
                        try simp only [Act.put, List.setIfInBounds_toArray, List.set_cons_zero, List.set_cons_succ]
                        refine take_drop (i := 19) (v := ?v19_51) rfl (by kernel_rfl) (by kernel_rfl) (by kernel_rfl) (fun _ _ _ h => h) (Or.inl ⟨by rfl, ?h19_51⟩) hHeld ?r19_51
                        case h19_51 => (intro wS hSw; obtain ⟨s1, s2⟩ := hSw; go_simp; all_goals (with_reducible rfl))
                        simp only [Act.put, List.setIfInBounds_toArray, List.set_cons_zero, List.set_cons_succ]
                        refine wpAnyH_ready (rs := [7]) (by kernel_rfl) (by simp) ?_
                        refine do_drop (i := 7) rfl (fun K hK => ?_) AllReadyH.nil
                        go_simp
                        refine hK.out _ _ hHeld ?_
                        clear hK K
                        try simp only [Act.put, List.setIfInBounds_toArray, List.set_cons_zero, List.set_cons_succ]
                        exact h1
                      refine do_drop (i := 18) rfl (fun K hK => ?_) AllReadyH.nil
                      go_simp
                      refine hK.out _ _ hHeld ?_
                      clear hK K
                      try simp only [Act.put, List.setIfInBounds_toArray, List.set_cons_zero, List.set_cons_succ]
                      refine take_drop (i := 19) (v := ?v19_53) rfl (by kernel_rfl) (by kernel_rfl) (by kernel_rfl) (fun _ _ _ h => h) (Or.inl ⟨by rfl, ?h19_53⟩) hHeld ?r19_53
                      case h19_53 => (intro wS hSw; obtain ⟨s1, s2⟩ := hSw; go_simp; all_goals (with_reducible rfl))
                      simp only [Act.put, List.setIfInBounds_toArray, List.set_cons_zero, List.set_cons_succ]
                      refine wpAnyH_ready (rs := [7, 12]) (by kernel_rfl) (by simp) ?_
                      refine do_drop (i := 7) rfl (fun K hK => ?_) ?_
                      · go_simp
                        refine hK.out _ _ hHeld ?_
                        clear hK K
                        try simp only [Act.put, List.setIfInBounds_toArray, List.set_cons_zero, List.set_cons_succ]
                        refine wpAnyH_ready (rs := [12]) (by kernel_rfl) (by simp) ?_
                        refine do_drop (i := 12) rfl (fun K hK => ?_) AllReadyH.nil
                        go_simp
                        refine hK.out _ _ hHeld ?_
                        clear hK K
                        try simp only [Act.put, List.setIfInBounds_toArray, List.set_cons_zero, List.set_cons_succ]
                        refine take_drop (i := 13) (v := ?v13_55) rfl (by kernel_rfl) (by kernel_rfl) (by kernel_rfl) (fun _ _ _ h => h) (Or.inl ⟨by rfl, ?h13_55⟩) hHeld ?r13_55
                        case h13_55 => (intro wS hSw; obtain ⟨s1, s2⟩ := hSw; go_simp; all_goals (with_reducible rfl))
                        simp only [Act.put, List.setIfInBounds_toArray, List.set_cons_zero, List.set_cons_succ]
                        exact h1
                      refine do_drop (i := 12) rfl (fun K hK => ?_) AllReadyH.nil
                      go_simp
                      refine hK.out _ _ hHeld ?_
                      clear hK K
                      try simp only [Act.put, List.setIfInBounds_toArray, List.set_cons_zero, List.set_cons_succ]
                      refine take_drop (i := 13) (v := ?v13_56) rfl (by kernel_rfl) (by kernel_rfl) (by kernel_rfl) (fun _ _ _ h => h) (Or.inl ⟨by rfl, ?h13_56⟩) hHeld ?r13_56
                      case h13_56 => (intro wS hSw; obtain ⟨s1, s2⟩ := hSw; go_simp; all_goals (with_reducible rfl))
                      simp only [Act.put, List.setIfInBounds_toArray, List.set_cons_zero, List.set_cons_succ]
                      refine wpAnyH_ready (rs := [7]) (by kernel_rfl) (by simp) ?_
                      refine do_drop (i := 7) rfl (fun K hK => ?_) AllReadyH.nil
                      go_simp
                      refine hK.out _ _ hHeld ?_
                      clear hK K
                      try simp only [Act.put, List.setIfInBounds_toArray, List.set_cons_zero, List.set_cons_succ]
                      exact h1
                    case gG41 =>
                      refine take_drop (i := 20) (v := ?v20_58) rfl (by kernel_rfl) (by kernel_rfl) (by kernel_rfl) (fun _ _ _ h => h) (Or.inl ⟨by rfl, ?h20_58⟩) hHeld ?r20_58
                      case h20_58 => (intro wS hSw; obtain ⟨s1, s2⟩ := hSw; go_simp; all_goals (with_reducible rfl))
                      simp only [Act.put, List.setIfInBounds_toArray, List.set_cons_zero, List.set_cons_succ]
                      refine wpAnyH_ready (rs := [23]) (by kernel_rfl) (by simp) ?_
                      refine do_drop (i := 23) rfl (fun K hK => ?_) AllReadyH.nil
                      rw [if_pos (by rfl)]
                      refine oper_append_run _ _ 31 rfl rfl rfl HRUN.out ?_
                      refine hK.out _ _ ⟨v19, v49⟩ ?_
                      clear hK K
                      try simp only [Act.put, List.setIfInBounds_toArray, List.set_cons_zero, List.set_cons_succ]
                      have hS9 := And.intro v19 v49
                      refine take_drop (i := 24) (v := ?v24_58) rfl (by kernel_rfl) (by kernel_rfl) (by kernel_rfl) (fun _ _ _ h => h) (Or.inl ⟨by rfl, ?h24_58⟩) hS9 ?r24_58
                      case h24_58 => (intro wS hSw; obtain ⟨s1, s2⟩ := hSw; go_simp; all_goals (with_reducible rfl))
                      simp only [Act.put, List.setIfInBounds_toArray, List.set_cons_zero, List.set_cons_succ]
                      refine wpAnyH_ready (rs := [25]) (by kernel_rfl) (by simp) ?_
                      refine do_drop (i := 25) rfl (fun K hK => ?_) AllReadyH.nil
                      go_simp
                      refine hK.out _ _ ⟨v1s, v4s⟩ ?_
                      clear hK K
                      try simp only [Act.put, List.setIfInBounds_toArray, List.set_cons_zero, List.set_cons_succ]
                      refine wpAnyH_done (by kernel_rfl) ?_ _
                      clear hHeld hS9 v1 v4 v19 v49 v1s v4s cL8 gL8 cL9 gL9 hcut
                      go_wp2_with fail
                      go_roundw
                      case rel => exact ⟨j + 1, F7, m7, _, fs, _, by simp, by omega, HO10.out, HK10.out, HR10.out, hd7⟩
                      case measure => simp [intOf]; omega
                · have dE7 : (E == 74) = false := by rw [beq_eq_false_iff_ne]; exact hE7
                  clear hE0 hE7
                  go_wp2_with fail
                  as_aux_lemma =>
                    refine wp_region_held_drew (S := fun w' => w'.cell? ⟨ob, 1, none⟩ = some (.int .i64 (q : Int)) ∧ w'.cell? ⟨W.heap.size, 0, none⟩ = some (.int .i64 (Z : Int)) ∧ w'.cell? ⟨ob, 4, none⟩ = some (.slice xda dn xdc) ∧ w'.cell? ⟨L, q, none⟩ = some (.slice ta AL tc)) (by kernel_rfl) ⟨z1, z0, z4, zL⟩ (fun hHeld => ?_)
                    refine take_drop (i := 0) (v := ?v0_60) rfl (by kernel_rfl) (by kernel_rfl) (by kernel_rfl) (fun _ _ _ h => h) (Or.inl ⟨by rfl, ?h0_60⟩) hHeld ?r0_60
                    case h0_60 => (intro wS hSw; obtain ⟨s1, s2, s3, s4⟩ := hSw; go_simp; all_goals (with_reducible rfl))
                    simp only [Act.put, List.setIfInBounds_toArray, List.set_cons_zero, List.set_cons_succ]
                    refine take_drop (i := 1) (v := ?v1_60) rfl (by kernel_rfl) (by kernel_rfl) (by kernel_rfl) (fun _ _ _ h => h) (Or.inl ⟨by rfl, ?h1_60⟩) hHeld ?r1_60
                    case h1_60 => (intro wS hSw; obtain ⟨s1, s2, s3, s4⟩ := hSw; go_simp; all_goals (with_reducible rfl))
                    simp only [Act.put, List.setIfInBounds_toArray, List.set_cons_zero, List.set_cons_succ]
                    refine take_drop (i := 2) (v := ?v2_60) rfl (by kernel_rfl) (by kernel_rfl) (by kernel_rfl) (fun _ _ _ h => h) (Or.inl ⟨by rfl, ?h2_60⟩) hHeld ?r2_60
                    case h2_60 => (intro wS hSw; obtain ⟨s1, s2, s3, s4⟩ := hSw; go_simp; all_goals (with_reducible rfl))
                    simp only [Act.put, List.setIfInBounds_toArray, List.set_cons_zero, List.set_cons_succ]
                    refine take_drop (i := 3) (v := ?v3_60) rfl (by kernel_rfl) (by kernel_rfl) (by kernel_rfl) (fun _ _ _ h => h) (Or.inl ⟨by rfl, ?h3_60⟩) hHeld ?r3_60
                    case h3_60 => (intro wS hSw; obtain ⟨s1, s2, s3, s4⟩ := hSw; go_simp; all_goals (with_reducible rfl))
                    simp only [Act.put, List.setIfInBounds_toArray, List.set_cons_zero, List.set_cons_succ]
                    refine take_drop (i := 4) (v := ?v4_60) rfl (by kernel_rfl) (by kernel_rfl) (by kernel_rfl) (fun _ _ _ h => h) (Or.inl ⟨by rfl, ?h4_60⟩) hHeld ?r4_60
                    case h4_60 => (intro wS hSw; obtain ⟨s1, s2, s3, s4⟩ := hSw; go_simp; all_goals (with_reducible rfl))
                    simp only [Act.put, List.setIfInBounds_toArray, List.set_cons_zero, List.set_cons_succ]
                    refine take_drop (i := 5) (v := ?v5_60) rfl (by kernel_rfl) (by kernel_rfl) (by kernel_rfl) (fun _ _ _ h => h) (Or.inl ⟨by rfl, ?h5_60⟩) hHeld ?r5_60
                    case h5_60 => (intro wS hSw; obtain ⟨s1, s2, s3, s4⟩ := hSw; go_simp; all_goals (with_reducible rfl))
                    simp only [Act.put, List.setIfInBounds_toArray, List.set_cons_zero, List.set_cons_succ]
                    refine take_drop (i := 6) (v := ?v6_60) rfl (by kernel_rfl) (by kernel_rfl) (by kernel_rfl) (fun _ _ _ h => h) (Or.inl ⟨by rfl, ?h6_60⟩) hHeld ?r6_60
                    case h6_60 => (intro wS hSw; obtain ⟨s1, s2, s3, s4⟩ := hSw; go_simp; all_goals (with_reducible rfl))
                    simp only [Act.put, List.setIfInBounds_toArray, List.set_cons_zero, List.set_cons_succ]
                    refine take_drop (i := 7) (v := ?v7_60) rfl (by kernel_rfl) (by kernel_rfl) (by kernel_rfl) (fun _ _ _ h => h) (Or.inl ⟨by rfl, ?h7_60⟩) hHeld ?r7_60
                    case h7_60 => (intro wS hSw; obtain ⟨s1, s2, s3, s4⟩ := hSw; go_simp; all_goals (with_reducible rfl))
                    simp only [Act.put, List.setIfInBounds_toArray, List.set_cons_zero, List.set_cons_succ]
                    refine take_drop (i := 8) (v := ?v8_60) rfl (by kernel_rfl) (by kernel_rfl) (by kernel_rfl) (fun _ _ _ h => h) (Or.inl ⟨by rfl, ?h8_60⟩) hHeld ?r8_60
                    case h8_60 => (intro wS hSw; obtain ⟨s1, s2, s3, s4⟩ := hSw; go_simp; all_goals (with_reducible rfl))
                    simp only [Act.put, List.setIfInBounds_toArray, List.set_cons_zero, List.set_cons_succ]
                    refine take_drop (i := 9) (v := ?v9_60) rfl (by kernel_rfl) (by kernel_rfl) (by kernel_rfl) (fun _ _ _ h => h) (Or.inl ⟨by rfl, ?h9_60⟩) hHeld ?r9_60
                    case h9_60 => (intro wS hSw; obtain ⟨s1, s2, s3, s4⟩ := hSw; go_simp; all_goals (with_reducible rfl))
                    simp only [Act.put, List.setIfInBounds_toArray, List.set_cons_zero, List.set_cons_succ]
                    refine take_drop (i := 10) (v := ?v10_60) rfl (by kernel_rfl) (by kernel_rfl) (by kernel_rfl) (fun _ _ _ h => h) (Or.inl ⟨by rfl, ?h10_60⟩) hHeld ?r10_60
                    case h10_60 => (intro wS hSw; obtain ⟨s1, s2, s3, s4⟩ := hSw; go_simp; all_goals (with_reducible rfl))
                    simp only [Act.put, List.setIfInBounds_toArray, List.set_cons_zero, List.set_cons_succ]
                    refine take_drop (i := 11) (v := ?v11_60) rfl (by kernel_rfl) (by kernel_rfl) (by kernel_rfl) (fun _ _ _ h => h) (Or.inl ⟨by rfl, ?h11_60⟩) hHeld ?r11_60
                    case h11_60 => (intro wS hSw; obtain ⟨s1, s2, s3, s4⟩ := hSw; go_simp; all_goals (with_reducible rfl))
                    simp only [Act.put, List.setIfInBounds_toArray, List.set_cons_zero, List.set_cons_succ]
                    refine take_drop (i := 12) (v := ?v12_60) rfl (by kernel_rfl) (by kernel_rfl) (by kernel_rfl) (fun _ _ _ h => h) (Or.inl ⟨by rfl, ?h12_60⟩) hHeld ?r12_60
                    case h12_60 => (intro wS hSw; obtain ⟨s1, s2, s3, s4⟩ := hSw; go_simp; all_goals (with_reducible rfl))
                    simp only [Act.put, List.setIfInBounds_toArray, List.set_cons_zero, List.set_cons_succ]
                    refine take_drop (i := 13) (v := ?v13_60) rfl (by kernel_rfl) (by kernel_rfl) (by kernel_rfl) (fun _ _ _ h => h) (Or.inl ⟨by rfl, ?h13_60⟩) hHeld ?r13_60
                    case h13_60 => (intro wS hSw; obtain ⟨s1, s2, s3, s4⟩ := hSw; go_simp; all_goals (with_reducible rfl))
                    simp only [Act.put, List.setIfInBounds_toArray, List.set_cons_zero, List.set_cons_succ]
                    refine take_drop (i := 15) (v := ?v15_60) rfl (by kernel_rfl) (by kernel_rfl) (by kernel_rfl) (fun _ _ _ h => h) (Or.inl ⟨by rfl, ?h15_60⟩) hHeld ?r15_60
                    case h15_60 => (intro wS hSw; obtain ⟨s1, s2, s3, s4⟩ := hSw; go_simp; all_goals (with_reducible rfl))
                    simp only [Act.put, List.setIfInBounds_toArray, List.set_cons_zero, List.set_cons_succ]
                    refine take_drop (i := 16) (v := ?v16_60) rfl (by kernel_rfl) (by kernel_rfl) (by kernel_rfl) (fun _ _ _ h => h) (Or.inl ⟨by rfl, ?h16_60⟩) hHeld ?r16_60
                    case h16_60 => (intro wS hSw; obtain ⟨s1, s2, s3, s4⟩ := hSw; go_simp; all_goals (with_reducible rfl))
                    simp only [Act.put, List.setIfInBounds_toArray, List.set_cons_zero, List.set_cons_succ]
                    refine take_drop (i := 17) (v := ?v17_60) rfl (by kernel_rfl) (by kernel_rfl) (by kernel_rfl) (fun _ _ _ h => h) (Or.inl ⟨by rfl, ?h17_60⟩) hHeld ?r17_60
                    case h17_60 => (intro wS hSw; obtain ⟨s1, s2, s3, s4⟩ := hSw; go_simp; all_goals (with_reducible rfl))
                    simp only [Act.put, List.setIfInBounds_toArray, List.set_cons_zero, List.set_cons_succ]
                    refine take_drop (i := 18) (v := ?v18_60) rfl (by kernel_rfl) (by kernel_rfl) (by kernel_rfl) (fun _ _ _ h => h) (Or.inl ⟨by rfl, ?h18_60⟩) hHeld ?r18_60
                    case h18_60 => (intro wS hSw; obtain ⟨s1, s2, s3, s4⟩ := hSw; go_simp; all_goals (with_reducible rfl))
                    simp only [Act.put, List.setIfInBounds_toArray, List.set_cons_zero, List.set_cons_succ]
                    refine take_drop (i := 19) (v := ?v19_60) rfl (by kernel_rfl) (by kernel_rfl) (by kernel_rfl) (fun _ _ _ h => h) (Or.inl ⟨by rfl, ?h19_60⟩) hHeld ?r19_60
                    case h19_60 => (intro wS hSw; obtain ⟨s1, s2, s3, s4⟩ := hSw; go_simp; all_goals (with_reducible rfl))
                    simp only [Act.put, List.setIfInBounds_toArray, List.set_cons_zero, List.set_cons_succ]
                    refine take_drop (i := 20) (v := ?v20_60) rfl (by kernel_rfl) (by kernel_rfl) (by kernel_rfl) (fun _ _ _ h => h) (Or.inl ⟨by rfl, ?h20_60⟩) hHeld ?r20_60
                    case h20_60 => (intro wS hSw; obtain ⟨s1, s2, s3, s4⟩ := hSw; go_simp; all_goals (with_reducible rfl))
                    simp only [Act.put, List.setIfInBounds_toArray, List.set_cons_zero, List.set_cons_succ]
                    refine take_drop (i := 21) (v := ?v21_60) rfl (by kernel_rfl) (by kernel_rfl) (by kernel_rfl) (fun _ _ _ h => h) (Or.inl ⟨by rfl, ?h21_60⟩) hHeld ?r21_60
                    case h21_60 => (intro wS hSw; obtain ⟨s1, s2, s3, s4⟩ := hSw; go_simp; all_goals (with_reducible rfl))
                    simp only [Act.put, List.setIfInBounds_toArray, List.set_cons_zero, List.set_cons_succ]
                    refine take_drop (i := 22) (v := ?v22_60) rfl (by kernel_rfl) (by kernel_rfl) (by kernel_rfl) (fun _ _ _ h => h) (Or.inl ⟨by rfl, ?h22_60⟩) hHeld ?r22_60
                    case h22_60 => (intro wS hSw; obtain ⟨s1, s2, s3, s4⟩ := hSw; go_simp; all_goals (with_reducible rfl))
                    simp only [Act.put, List.setIfInBounds_toArray, List.set_cons_zero, List.set_cons_succ]
                    refine take_drop (i := 23) (v := ?v23_60) rfl (by kernel_rfl) (by kernel_rfl) (by kernel_rfl) (fun _ _ _ h => h) (Or.inl ⟨by rfl, ?h23_60⟩) hHeld ?r23_60
                    case h23_60 => (intro wS hSw; obtain ⟨s1, s2, s3, s4⟩ := hSw; go_simp; all_goals (with_reducible rfl))
                    simp only [Act.put, List.setIfInBounds_toArray, List.set_cons_zero, List.set_cons_succ]
                    refine take_drop (i := 24) (v := ?v24_60) rfl (by kernel_rfl) (by kernel_rfl) (by kernel_rfl) (fun _ _ _ h => h) (Or.inl ⟨by rfl, ?h24_60⟩) hHeld ?r24_60
                    case h24_60 => (intro wS hSw; obtain ⟨s1, s2, s3, s4⟩ := hSw; go_simp; all_goals (with_reducible rfl))
                    simp only [Act.put, List.setIfInBounds_toArray, List.set_cons_zero, List.set_cons_succ]
                    refine wpAnyH_ready (rs := [14]) (by kernel_rfl) (by simp) ?_
                    refine do_drop (i := 14) rfl (fun K hK => ?_) AllReadyH.nil
                    go_simp
                    refine (HPT.out _ HOD.out).mono ?_
                    rintro e w8 ⟨rfl, hO8, f8⟩
                    have y1 := f8.cell z1 (fun h => h)
                    have y0 := f8.cell z0 (fun h => h)
                    have y4 := f8.cell z4 (fun h => h)
                    have yL := f8.cell zL (fun h => h)
                    have HO8 := Lib.hid hO8
                    have HK8 := Lib.hid (HKD.out.tell f8)
                    have HA8 := Lib.hid (HAD.out.keep f8 (fun h => h))
                    clear hO8 f8
                    refine hK.out _ _ ⟨y1, y0, y4, yL⟩ ?_
                    clear hK K
                    try simp only [Act.put, List.setIfInBounds_toArray, List.set_cons_zero, List.set_cons_succ]
                    have hS8 := And.intro y1 (And.intro y0 (And.intro y4 yL))
                    clear hHeld
                    refine take_drop (i := 25) (v := ?v25_60) rfl (by kernel_rfl) (by kernel_rfl) (by kernel_rfl) (fun _ _ _ h => h) (Or.inl ⟨by rfl, ?h25_60⟩) hS8 ?r25_60
                    case h25_60 => (intro wS hSw; obtain ⟨s1, s2, s3, s4⟩ := hSw; go_simp; all_goals (with_reducible rfl))
                    simp only [Act.put, List.setIfInBounds_toArray, List.set_cons_zero, List.set_cons_succ]
                    refine take_drop (i := 26) (v := ?v26_60) rfl (by kernel_rfl) (by kernel_rfl) (by kernel_rfl) (fun _ _ _ h => h) (Or.inl ⟨by rfl, ?h26_60⟩) hS8 ?r26_60
                    case h26_60 => (intro wS hSw; obtain ⟨s1, s2, s3, s4⟩ := hSw; go_simp; all_goals (with_reducible rfl))
                    simp only [Act.put, List.setIfInBounds_toArray, List.set_cons_zero, List.set_cons_succ]
                    refine take_drop (i := 27) (v := ?v27_60) rfl (by kernel_rfl) (by kernel_rfl) (by kernel_rfl) (fun _ _ _ h => h) (Or.inl ⟨by rfl, ?h27_60⟩) hS8 ?r27_60
                    case h27_60 => (intro wS hSw; obtain ⟨s1, s2, s3, s4⟩ := hSw; go_simp; all_goals (with_reducible rfl))
                    simp only [Act.put, List.setIfInBounds_toArray, List.set_cons_zero, List.set_cons_succ]
                    refine take_drop (i := 28) (v := ?v28_60) rfl (by kernel_rfl) (by kernel_rfl) (by kernel_rfl) (fun _ _ _ h => h) (Or.inl ⟨by rfl, ?h28_60⟩) hS8 ?r28_60
                    case h28_60 => (intro wS hSw; obtain ⟨s1, s2, s3, s4⟩ := hSw; go_simp; all_goals (with_reducible rfl))
                    simp only [Act.put, List.setIfInBounds_toArray, List.set_cons_zero, List.set_cons_succ]
                    refine take_drop (i := 29) (v := ?v29_60) rfl (by kernel_rfl) (by kernel_rfl) (by kernel_rfl) (fun _ _ _ h => h) (Or.inl ⟨by rfl, ?h29_60⟩) hS8 ?r29_60
                    case h29_60 => (intro wS hSw; obtain ⟨s1, s2, s3, s4⟩ := hSw; go_simp; all_goals (with_reducible rfl))
                    simp only [Act.put, List.setIfInBounds_toArray, List.set_cons_zero, List.set_cons_succ]
                    refine take_drop (i := 30) (v := ?v30_60) rfl (by kernel_rfl) (by kernel_rfl) (by kernel_rfl) (fun _ _ _ h => h) (Or.inl ⟨by rfl, ?h30_60⟩) hS8 ?r30_60
                    case h30_60 => (intro wS hSw; obtain ⟨s1, s2, s3, s4⟩ := hSw; go_simp; all_goals (with_reducible rfl))
                    simp only [Act.put, List.setIfInBounds_toArray, List.set_cons_zero, List.set_cons_succ]
                    refine take_drop (i := 31) (v := ?v31_60) rfl (by kernel_rfl) (by kernel_rfl) (by kernel_rfl) (fun _ _ _ h => h) (Or.inl ⟨by rfl, ?h31_60⟩) hS8 ?r31_60
                    case h31_60 => (intro wS hSw; obtain ⟨s1, s2, s3, s4⟩ := hSw; go_simp; all_goals (with_reducible rfl))
                    simp only [Act.put, List.setIfInBounds_toArray, List.set_cons_zero, List.set_cons_succ]
                    refine take_drop (i := 32) (v := ?v32_60) rfl (by kernel_rfl) (by kernel_rfl) (by kernel_rfl) (fun _ _ _ h => h) (Or.inl ⟨by rfl, ?h32_60⟩) hS8 ?r32_60
                    case h32_60 => (intro wS hSw; obtain ⟨s1, s2, s3, s4⟩ := hSw; go_simp; all_goals (with_reducible rfl))
                    simp only [Act.put, List.setIfInBounds_toArray, List.set_cons_zero, List.set_cons_succ]
                    refine take_drop (i := 33) (v := ?v33_60) rfl (by kernel_rfl) (by kernel_rfl) (by kernel_rfl) (fun _ _ _ h => h) (Or.inl ⟨by rfl, ?h33_60⟩) hS8 ?r33_60
                    case h33_60 => (intro wS hSw; obtain ⟨s1, s2, s3, s4⟩ := hSw; go_simp; all_goals (with_reducible rfl))
                    simp only [Act.put, List.setIfInBounds_toArray, List.set_cons_zero, List.set_cons_succ]
                    refine take_drop (i := 34) (v := ?v34_60) rfl (by kernel_rfl) (by kernel_rfl) (by kernel_rfl) (fun _ _ _ h => h) (Or.inl ⟨by rfl, ?h34_60⟩) hS8 ?r34_60
                    case h34_60 => (intro wS hSw; obtain ⟨s1, s2, s3, s4⟩ := hSw; go_simp; all_goals (with_reducible rfl))
                    simp only [Act.put, List.setIfInBounds_toArray, List.set_cons_zero, List.set_cons_succ]
                    refine wpAnyH_done (by kernel_rfl) ?_ _
                    clear hS8 z0 z1 z4 zL y0 y1 y4 yL
                    go_wp2_with fail
                    go_roundw
                    case rel => exact ⟨j + 1, F7, m7, xs, fs, X, by simp, by omega, HO8.out, HK8.out, HR7.out, hd7⟩
                    case measure => simp [intOf]; omega
              · obtain ⟨PL, hPL⟩ : ∃ x, ptrM m7 (q : Int) = x := ⟨_, rfl⟩
                have HPT : Hid (∀ w, OwnZ D W1 w d F7 m7 → Calls Try.prog 12 #[.pointer (some ⟨d, 0, none⟩), .int .i64 (q : Int)] w (ToldZ D W1 w d F7 m7 (.int .i64 PL))) := Lib.hid fun w h => by have := HPT0.out w h; rwa [hPL] at this
                have dq : (PL == (AL : Int) + (dn : Int)) = false := by rw [beq_eq_false_iff_ne, ← hPL, ep]; omega
                clear h0 ep hdz hE0 hPL
                go_wp2_with fail
                as_aux_lemma =>
                  refine wp_region_held_drew (S := fun w' => w'.cell? ⟨ob, 1, none⟩ = some (.int .i64 (q : Int)) ∧ w'.cell? ⟨W.heap.size, 0, none⟩ = some (.int .i64 (Z : Int)) ∧ w'.cell? ⟨ob, 4, none⟩ = some (.slice xda dn xdc) ∧ w'.cell? ⟨L, q, none⟩ = some (.slice ta AL tc)) (by kernel_rfl) ⟨z1, z0, z4, zL⟩ (fun hHeld => ?_)
                  refine take_drop (i := 0) (v := ?v0_61) rfl (by kernel_rfl) (by kernel_rfl) (by kernel_rfl) (fun _ _ _ h => h) (Or.inl ⟨by rfl, ?h0_61⟩) hHeld ?r0_61
                  case h0_61 => (intro wS hSw; obtain ⟨s1, s2, s3, s4⟩ := hSw; go_simp; all_goals (with_reducible rfl))
                  simp only [Act.put, List.setIfInBounds_toArray, List.set_cons_zero, List.set_cons_succ]
                  refine take_drop (i := 1) (v := ?v1_61) rfl (by kernel_rfl) (by kernel_rfl) (by kernel_rfl) (fun _ _ _ h => h) (Or.inl ⟨by rfl, ?h1_61⟩) hHeld ?r1_61
                  case h1_61 => (intro wS hSw; obtain ⟨s1, s2, s3, s4⟩ := hSw; go_simp; all_goals (with_reducible rfl))
                  simp only [Act.put, List.setIfInBounds_toArray, List.set_cons_zero, List.set_cons_succ]
                  refine take_drop (i := 2) (v := ?v2_61) rfl (by kernel_rfl) (by kernel_rfl) (by kernel_rfl) (fun _ _ _ h => h) (Or.inl ⟨by rfl, ?h2_61⟩) hHeld ?r2_61
                  case h2_61 => (intro wS hSw; obtain ⟨s1, s2, s3, s4⟩ := hSw; go_simp; all_goals (with_reducible rfl))
                  simp only [Act.put, List.setIfInBounds_toArray, List.set_cons_zero, List.set_cons_succ]
                  refine take_drop (i := 3) (v := ?v3_61) rfl (by kernel_rfl) (by kernel_rfl) (by kernel_rfl) (fun _ _ _ h => h) (Or.inl ⟨by rfl, ?h3_61⟩) hHeld ?r3_61
                  case h3_61 => (intro wS hSw; obtain ⟨s1, s2, s3, s4⟩ := hSw; go_simp; all_goals (with_reducible rfl))
                  simp only [Act.put, List.setIfInBounds_toArray, List.set_cons_zero, List.set_cons_succ]
                  refine take_drop (i := 4) (v := ?v4_61) rfl (by kernel_rfl) (by kernel_rfl) (by kernel_rfl) (fun _ _ _ h => h) (Or.inl ⟨by rfl, ?h4_61⟩) hHeld ?r4_61
                  case h4_61 => (intro wS hSw; obtain ⟨s1, s2, s3, s4⟩ := hSw; go_simp; all_goals (with_reducible rfl))
                  simp only [Act.put, List.setIfInBounds_toArray, List.set_cons_zero, List.set_cons_succ]
                  refine take_drop (i := 5) (v := ?v5_61) rfl (by kernel_rfl) (by kernel_rfl) (by kernel_rfl) (fun _ _ _ h => h) (Or.inl ⟨by rfl, ?h5_61⟩) hHeld ?r5_61
                  case h5_61 => (intro wS hSw; obtain ⟨s1, s2, s3, s4⟩ := hSw; go_simp; all_goals (with_reducible rfl))
                  simp only [Act.put, List.setIfInBounds_toArray, List.set_cons_zero, List.set_cons_succ]
                  refine take_drop (i := 6) (v := ?v6_61) rfl (by kernel_rfl) (by kernel_rfl) (by kernel_rfl) (fun _ _ _ h => h) (Or.inl ⟨by rfl, ?h6_61⟩) hHeld ?r6_61
                  case h6_61 => (intro wS hSw; obtain ⟨s1, s2, s3, s4⟩ := hSw; go_simp; all_goals (with_reducible rfl))
                  simp only [Act.put, List.setIfInBounds_toArray, List.set_cons_zero, List.set_cons_succ]
                  refine take_drop (i := 7) (v := ?v7_61) rfl (by kernel_rfl) (by kernel_rfl) (by kernel_rfl) (fun _ _ _ h => h) (Or.inl ⟨by rfl, ?h7_61⟩) hHeld ?r7_61
                  case h7_61 => (intro wS hSw; obtain ⟨s1, s2, s3, s4⟩ := hSw; go_simp; all_goals (with_reducible rfl))
                  simp only [Act.put, List.setIfInBounds_toArray, List.set_cons_zero, List.set_cons_succ]
                  refine take_drop (i := 8) (v := ?v8_61) rfl (by kernel_rfl) (by kernel_rfl) (by kernel_rfl) (fun _ _ _ h => h) (Or.inl ⟨by rfl, ?h8_61⟩) hHeld ?r8_61
                  case h8_61 => (intro wS hSw; obtain ⟨s1, s2, s3, s4⟩ := hSw; go_simp; all_goals (with_reducible rfl))
                  simp only [Act.put, List.setIfInBounds_toArray, List.set_cons_zero, List.set_cons_succ]
                  refine take_drop (i := 9) (v := ?v9_61) rfl (by kernel_rfl) (by kernel_rfl) (by kernel_rfl) (fun _ _ _ h => h) (Or.inl ⟨by rfl, ?h9_61⟩) hHeld ?r9_61
                  case h9_61 => (intro wS hSw; obtain ⟨s1, s2, s3, s4⟩ := hSw; go_simp; all_goals (with_reducible rfl))
                  simp only [Act.put, List.setIfInBounds_toArray, List.set_cons_zero, List.set_cons_succ]
                  refine take_drop (i := 10) (v := ?v10_61) rfl (by kernel_rfl) (by kernel_rfl) (by kernel_rfl) (fun _ _ _ h => h) (Or.inl ⟨by rfl, ?h10_61⟩) hHeld ?r10_61
                  case h10_61 => (intro wS hSw; obtain ⟨s1, s2, s3, s4⟩ := hSw; go_simp; all_goals (with_reducible rfl))
                  simp only [Act.put, List.setIfInBounds_toArray, List.set_cons_zero, List.set_cons_succ]
                  refine take_drop (i := 11) (v := ?v11_61) rfl (by kernel_rfl) (by kernel_rfl) (by kernel_rfl) (fun _ _ _ h => h) (Or.inl ⟨by rfl, ?h11_61⟩) hHeld ?r11_61
                  case h11_61 => (intro wS hSw; obtain ⟨s1, s2, s3, s4⟩ := hSw; go_simp; all_goals (with_reducible rfl))
                  simp only [Act.put, List.setIfInBounds_toArray, List.set_cons_zero, List.set_cons_succ]
                  refine take_drop (i := 12) (v := ?v12_61) rfl (by kernel_rfl) (by kernel_rfl) (by kernel_rfl) (fun _ _ _ h => h) (Or.inl ⟨by rfl, ?h12_61⟩) hHeld ?r12_61
                  case h12_61 => (intro wS hSw; obtain ⟨s1, s2, s3, s4⟩ := hSw; go_simp; all_goals (with_reducible rfl))
                  simp only [Act.put, List.setIfInBounds_toArray, List.set_cons_zero, List.set_cons_succ]
                  refine take_drop (i := 13) (v := ?v13_61) rfl (by kernel_rfl) (by kernel_rfl) (by kernel_rfl) (fun _ _ _ h => h) (Or.inl ⟨by rfl, ?h13_61⟩) hHeld ?r13_61
                  case h13_61 => (intro wS hSw; obtain ⟨s1, s2, s3, s4⟩ := hSw; go_simp; all_goals (with_reducible rfl))
                  simp only [Act.put, List.setIfInBounds_toArray, List.set_cons_zero, List.set_cons_succ]
                  refine take_drop (i := 15) (v := ?v15_61) rfl (by kernel_rfl) (by kernel_rfl) (by kernel_rfl) (fun _ _ _ h => h) (Or.inl ⟨by rfl, ?h15_61⟩) hHeld ?r15_61
                  case h15_61 => (intro wS hSw; obtain ⟨s1, s2, s3, s4⟩ := hSw; go_simp; all_goals (with_reducible rfl))
                  simp only [Act.put, List.setIfInBounds_toArray, List.set_cons_zero, List.set_cons_succ]
                  refine take_drop (i := 16) (v := ?v16_61) rfl (by kernel_rfl) (by kernel_rfl) (by kernel_rfl) (fun _ _ _ h => h) (Or.inl ⟨by rfl, ?h16_61⟩) hHeld ?r16_61
                  case h16_61 => (intro wS hSw; obtain ⟨s1, s2, s3, s4⟩ := hSw; go_simp; all_goals (with_reducible rfl))
                  simp only [Act.put, List.setIfInBounds_toArray, List.set_cons_zero, List.set_cons_succ]
                  refine take_drop (i := 17) (v := ?v17_61) rfl (by kernel_rfl) (by kernel_rfl) (by kernel_rfl) (fun _ _ _ h => h) (Or.inl ⟨by rfl, ?h17_61⟩) hHeld ?r17_61
                  case h17_61 => (intro wS hSw; obtain ⟨s1, s2, s3, s4⟩ := hSw; go_simp; all_goals (with_reducible rfl))
                  simp only [Act.put, List.setIfInBounds_toArray, List.set_cons_zero, List.set_cons_succ]
                  refine take_drop (i := 18) (v := ?v18_61) rfl (by kernel_rfl) (by kernel_rfl) (by kernel_rfl) (fun _ _ _ h => h) (Or.inl ⟨by rfl, ?h18_61⟩) hHeld ?r18_61
                  case h18_61 => (intro wS hSw; obtain ⟨s1, s2, s3, s4⟩ := hSw; go_simp; all_goals (with_reducible rfl))
                  simp only [Act.put, List.setIfInBounds_toArray, List.set_cons_zero, List.set_cons_succ]
                  refine take_drop (i := 19) (v := ?v19_61) rfl (by kernel_rfl) (by kernel_rfl) (by kernel_rfl) (fun _ _ _ h => h) (Or.inl ⟨by rfl, ?h19_61⟩) hHeld ?r19_61
                  case h19_61 => (intro wS hSw; obtain ⟨s1, s2, s3, s4⟩ := hSw; go_simp; all_goals (with_reducible rfl))
                  simp only [Act.put, List.setIfInBounds_toArray, List.set_cons_zero, List.set_cons_succ]
                  refine take_drop (i := 20) (v := ?v20_61) rfl (by kernel_rfl) (by kernel_rfl) (by kernel_rfl) (fun _ _ _ h => h) (Or.inl ⟨by rfl, ?h20_61⟩) hHeld ?r20_61
                  case h20_61 => (intro wS hSw; obtain ⟨s1, s2, s3, s4⟩ := hSw; go_simp; all_goals (with_reducible rfl))
                  simp only [Act.put, List.setIfInBounds_toArray, List.set_cons_zero, List.set_cons_succ]
                  refine take_drop (i := 21) (v := ?v21_61) rfl (by kernel_rfl) (by kernel_rfl) (by kernel_rfl) (fun _ _ _ h => h) (Or.inl ⟨by rfl, ?h21_61⟩) hHeld ?r21_61
                  case h21_61 => (intro wS hSw; obtain ⟨s1, s2, s3, s4⟩ := hSw; go_simp; all_goals (with_reducible rfl))
                  simp only [Act.put, List.setIfInBounds_toArray, List.set_cons_zero, List.set_cons_succ]
                  refine take_drop (i := 22) (v := ?v22_61) rfl (by kernel_rfl) (by kernel_rfl) (by kernel_rfl) (fun _ _ _ h => h) (Or.inl ⟨by rfl, ?h22_61⟩) hHeld ?r22_61
                  case h22_61 => (intro wS hSw; obtain ⟨s1, s2, s3, s4⟩ := hSw; go_simp; all_goals (with_reducible rfl))
                  simp only [Act.put, List.setIfInBounds_toArray, List.set_cons_zero, List.set_cons_succ]
                  refine take_drop (i := 23) (v := ?v23_61) rfl (by kernel_rfl) (by kernel_rfl) (by kernel_rfl) (fun _ _ _ h => h) (Or.inl ⟨by rfl, ?h23_61⟩) hHeld ?r23_61
                  case h23_61 => (intro wS hSw; obtain ⟨s1, s2, s3, s4⟩ := hSw; go_simp; all_goals (with_reducible rfl))
                  simp only [Act.put, List.setIfInBounds_toArray, List.set_cons_zero, List.set_cons_succ]
                  refine take_drop (i := 24) (v := ?v24_61) rfl (by kernel_rfl) (by kernel_rfl) (by kernel_rfl) (fun _ _ _ h => h) (Or.inl ⟨by rfl, ?h24_61⟩) hHeld ?r24_61
                  case h24_61 => (intro wS hSw; obtain ⟨s1, s2, s3, s4⟩ := hSw; go_simp; all_goals (with_reducible rfl))
                  simp only [Act.put, List.setIfInBounds_toArray, List.set_cons_zero, List.set_cons_succ]
                  refine wpAnyH_ready (rs := [14]) (by kernel_rfl) (by simp) ?_
                  refine do_drop (i := 14) rfl (fun K hK => ?_) AllReadyH.nil
                  go_simp
                  refine (HPT.out _ HOD.out).mono ?_
                  rintro e w8 ⟨rfl, hO8, f8⟩
                  have y1 := f8.cell z1 (fun h => h)
                  have y0 := f8.cell z0 (fun h => h)
                  have y4 := f8.cell z4 (fun h => h)
                  have yL := f8.cell zL (fun h => h)
                  have HO8 := Lib.hid hO8
                  have HK8 := Lib.hid (HKD.out.tell f8)
                  have HA8 := Lib.hid (HAD.out.keep f8 (fun h => h))
                  clear hO8 f8
                  refine hK.out _ _ ⟨y1, y0, y4, yL⟩ ?_
                  clear hK K
                  try simp only [Act.put, List.setIfInBounds_toArray, List.set_cons_zero, List.set_cons_succ]
                  have hS8 := And.intro y1 (And.intro y0 (And.intro y4 yL))
                  clear hHeld
                  refine take_drop (i := 25) (v := ?v25_61) rfl (by kernel_rfl) (by kernel_rfl) (by kernel_rfl) (fun _ _ _ h => h) (Or.inl ⟨by rfl, ?h25_61⟩) hS8 ?r25_61
                  case h25_61 => (intro wS hSw; obtain ⟨s1, s2, s3, s4⟩ := hSw; go_simp; all_goals (with_reducible rfl))
                  simp only [Act.put, List.setIfInBounds_toArray, List.set_cons_zero, List.set_cons_succ]
                  refine take_drop (i := 26) (v := ?v26_61) rfl (by kernel_rfl) (by kernel_rfl) (by kernel_rfl) (fun _ _ _ h => h) (Or.inl ⟨by rfl, ?h26_61⟩) hS8 ?r26_61
                  case h26_61 => (intro wS hSw; obtain ⟨s1, s2, s3, s4⟩ := hSw; go_simp; all_goals (with_reducible rfl))
                  simp only [Act.put, List.setIfInBounds_toArray, List.set_cons_zero, List.set_cons_succ]
                  refine take_drop (i := 27) (v := ?v27_61) rfl (by kernel_rfl) (by kernel_rfl) (by kernel_rfl) (fun _ _ _ h => h) (Or.inl ⟨by rfl, ?h27_61⟩) hS8 ?r27_61
                  case h27_61 => (intro wS hSw; obtain ⟨s1, s2, s3, s4⟩ := hSw; go_simp; all_goals (with_reducible rfl))
                  simp only [Act.put, List.setIfInBounds_toArray, List.set_cons_zero, List.set_cons_succ]
                  refine take_drop (i := 28) (v := undef) rfl (by kernel_rfl) (by kernel_rfl) (by kernel_rfl) (fun _ _ _ h => h) (Or.inr ⟨by rfl, rfl⟩) hS8 ?_
                  simp only [Act.put, List.setIfInBounds_toArray, List.set_cons_zero, List.set_cons_succ]
                  refine take_drop (i := 29) (v := undef) rfl (by kernel_rfl) (by kernel_rfl) (by kernel_rfl) (fun _ _ _ h => h) (Or.inr ⟨by rfl, rfl⟩) hS8 ?_
                  simp only [Act.put, List.setIfInBounds_toArray, List.set_cons_zero, List.set_cons_succ]
                  refine take_drop (i := 30) (v := undef) rfl (by kernel_rfl) (by kernel_rfl) (by kernel_rfl) (fun _ _ _ h => h) (Or.inr ⟨by rfl, rfl⟩) hS8 ?_
                  simp only [Act.put, List.setIfInBounds_toArray, List.set_cons_zero, List.set_cons_succ]
                  refine take_drop (i := 31) (v := undef) rfl (by kernel_rfl) (by kernel_rfl) (by kernel_rfl) (fun _ _ _ h => h) (Or.inr ⟨by rfl, rfl⟩) hS8 ?_
                  simp only [Act.put, List.setIfInBounds_toArray, List.set_cons_zero, List.set_cons_succ]
                  refine take_drop (i := 32) (v := undef) rfl (by kernel_rfl) (by kernel_rfl) (by kernel_rfl) (fun _ _ _ h => h) (Or.inr ⟨by rfl, rfl⟩) hS8 ?_
                  simp only [Act.put, List.setIfInBounds_toArray, List.set_cons_zero, List.set_cons_succ]
                  refine take_drop (i := 33) (v := undef) rfl (by kernel_rfl) (by kernel_rfl) (by kernel_rfl) (fun _ _ _ h => h) (Or.inr ⟨by rfl, rfl⟩) hS8 ?_
                  simp only [Act.put, List.setIfInBounds_toArray, List.set_cons_zero, List.set_cons_succ]
                  refine take_drop (i := 34) (v := ?v34_61) rfl (by kernel_rfl) (by kernel_rfl) (by kernel_rfl) (fun _ _ _ h => h) (Or.inl ⟨by rfl, ?h34_61⟩) hS8 ?r34_61
                  case h34_61 => (intro wS hSw; obtain ⟨s1, s2, s3, s4⟩ := hSw; go_simp; all_goals (with_reducible rfl))
                  simp only [Act.put, List.setIfInBounds_toArray, List.set_cons_zero, List.set_cons_succ]
                  refine wpAnyH_done (by kernel_rfl) ?_ _
                  clear hS8 z0 z1 z4 zL y0 y1 y4 yL
                  go_wp2_with fail
                  go_roundw
                  case rel => exact ⟨j + 1, F7, m7, xs, fs, X, by simp, by omega, HO8.out, HK8.out, HR7.out, hd7⟩
                  case measure => simp [intOf]; omega
          · have d2 : decide ((0 : Int) ≤ (q : Int)) = true := by rw [decide_eq_true_eq]; omega
            have d3 : decide ((q : Int) < (Z : Int)) = false := by rw [decide_eq_false_iff_not]; omega
            have d4 : decide (q < Z) = false := by rw [decide_eq_false_iff_not]; omega
            have HR7 : Hid (KR m7 Z xs fs) := Lib.hid (by
              rw [← HM7.out]
              refine HKR.out.same (appM_zs fun h => ?_)
              have := (hasZ_iff.1 (appErr_ok h).2.1).2
              rw [HKR.out.z] at this
              omega)
            clear z4 hq
            go_wp2_with fail
            refine wp_region_held_drew (S := fun w' => w'.cell? ⟨ob, 1, none⟩ = some (.int .i64 (q : Int)) ∧ w'.cell? ⟨W.heap.size, 0, none⟩ = some (.int .i64 (Z : Int))) (by kernel_rfl) ⟨z1, z0⟩ (fun hHeld => ?_)
            refine take_drop (i := 0) (v := ?v0_2) rfl (by kernel_rfl) (by kernel_rfl) (by kernel_rfl) (fun _ _ _ h => h) (Or.inl ⟨by rfl, ?h0_2⟩) hHeld ?r0_2
            case h0_2 => (intro wS hSw; obtain ⟨s1, s2⟩ := hSw; go_simp; all_goals (with_reducible rfl))
            simp only [Act.put, List.setIfInBounds_toArray, List.set_cons_zero, List.set_cons_succ]
            refine take_drop (i := 1) (v := ?v1_2) rfl (by kernel_rfl) (by kernel_rfl) (by kernel_rfl) (fun _ _ _ h => h) (Or.inl ⟨by rfl, ?h1_2⟩) hHeld ?r1_2
            case h1_2 => (intro wS hSw; obtain ⟨s1, s2⟩ := hSw; go_simp; all_goals (with_reducible rfl))
            simp only [Act.put, List.setIfInBounds_toArray, List.set_cons_zero, List.set_cons_succ]
            refine take_drop (i := 2) (v := ?v2_2) rfl (by kernel_rfl) (by kernel_rfl) (by kernel_rfl) (fun _ _ _ h => h) (Or.inl ⟨by rfl, ?h2_2⟩) hHeld ?r2_2
            case h2_2 => (intro wS hSw; obtain ⟨s1, s2⟩ := hSw; go_simp; all_goals (with_reducible rfl))
            simp only [Act.put, List.setIfInBounds_toArray, List.set_cons_zero, List.set_cons_succ]
            refine take_drop (i := 3) (v := ?v3_2) rfl (by kernel_rfl) (by kernel_rfl) (by kernel_rfl) (fun _ _ _ h => h) (Or.inl ⟨by rfl, ?h3_2⟩) hHeld ?r3_2
            case h3_2 => (intro wS hSw; obtain ⟨s1, s2⟩ := hSw; go_simp; all_goals (with_reducible rfl))
            simp only [Act.put, List.setIfInBounds_toArray, List.set_cons_zero, List.set_cons_succ]
            refine take_drop (i := 4) (v := ?v4_2) rfl (by kernel_rfl) (by kernel_rfl) (by kernel_rfl) (fun _ _ _ h => h) (Or.inl ⟨by rfl, ?h4_2⟩) hHeld ?r4_2
            case h4_2 => (intro wS hSw; obtain ⟨s1, s2⟩ := hSw; go_simp; all_goals (with_reducible rfl))
            simp only [Act.put, List.setIfInBounds_toArray, List.set_cons_zero, List.set_cons_succ]
            refine take_drop (i := 5) (v := ?v5_2) rfl (by kernel_rfl) (by kernel_rfl) (by kernel_rfl) (fun _ _ _ h => h) (Or.inl ⟨by rfl, ?h5_2⟩) hHeld ?r5_2
            case h5_2 => (intro wS hSw; obtain ⟨s1, s2⟩ := hSw; go_simp; all_goals (with_reducible rfl))
            simp only [Act.put, List.setIfInBounds_toArray, List.set_cons_zero, List.set_cons_succ]
            refine take_drop (i := 6) (v := ?v6_2) rfl (by kernel_rfl) (by kernel_rfl) (by kernel_rfl) (fun _ _ _ h => h) (Or.inl ⟨by rfl, ?h6_2⟩) hHeld ?r6_2
            case h6_2 => (intro wS hSw; obtain ⟨s1, s2⟩ := hSw; go_simp; all_goals (with_reducible rfl))
            simp only [Act.put, List.setIfInBounds_toArray, List.set_cons_zero, List.set_cons_succ]
            refine take_drop (i := 7) (v := ?v7_2) rfl (by kernel_rfl) (by kernel_rfl) (by kernel_rfl) (fun _ _ _ h => h) (Or.inl ⟨by rfl, ?h7_2⟩) hHeld ?r7_2
            case h7_2 => (intro wS hSw; obtain ⟨s1, s2⟩ := hSw; go_simp; all_goals (with_reducible rfl))
            simp only [Act.put, List.setIfInBounds_toArray, List.set_cons_zero, List.set_cons_succ]
            refine take_drop (i := 8) (v := ?v8_2) rfl (by kernel_rfl) (by kernel_rfl) (by kernel_rfl) (fun _ _ _ h => h) (Or.inl ⟨by rfl, ?h8_2⟩) hHeld ?r8_2
            case h8_2 => (intro wS hSw; obtain ⟨s1, s2⟩ := hSw; go_simp; all_goals (with_reducible rfl))
            simp only [Act.put, List.setIfInBounds_toArray, List.set_cons_zero, List.set_cons_succ]
            refine take_drop (i := 9) (v := ?v9_2) rfl (by kernel_rfl) (by kernel_rfl) (by kernel_rfl) (fun _ _ _ h => h) (Or.inl ⟨by rfl, ?h9_2⟩) hHeld ?r9_2
            case h9_2 => (intro wS hSw; obtain ⟨s1, s2⟩ := hSw; go_simp; all_goals (with_reducible rfl))
            simp only [Act.put, List.setIfInBounds_toArray, List.set_cons_zero, List.set_cons_succ]
            refine take_drop (i := 10) (v := ?v10_2) rfl (by kernel_rfl) (by kernel_rfl) (by kernel_rfl) (fun _ _ _ h => h) (Or.inl ⟨by rfl, ?h10_2⟩) hHeld ?r10_2
            case h10_2 => (intro wS hSw; obtain ⟨s1, s2⟩ := hSw; go_simp; all_goals (with_reducible rfl))
            simp only [Act.put, List.setIfInBounds_toArray, List.set_cons_zero, List.set_cons_succ]
            refine take_drop (i := 11) (v := undef) rfl (by kernel_rfl) (by kernel_rfl) (by kernel_rfl) (fun _ _ _ h => h) (Or.inr ⟨by rfl, rfl⟩) hHeld ?_
            simp only [Act.put, List.setIfInBounds_toArray, List.set_cons_zero, List.set_cons_succ]
            refine take_drop (i := 12) (v := undef) rfl (by kernel_rfl) (by kernel_rfl) (by kernel_rfl) (fun _ _ _ h => h) (Or.inr ⟨by rfl, rfl⟩) hHeld ?_
            simp only [Act.put, List.setIfInBounds_toArray, List.set_cons_zero, List.set_cons_succ]
            refine take_drop (i := 13) (v := undef) rfl (by kernel_rfl) (by kernel_rfl) (by kernel_rfl) (fun _ _ _ h => h) (Or.inr ⟨by rfl, rfl⟩) hHeld ?_
            simp only [Act.put, List.setIfInBounds_toArray, List.set_cons_zero, List.set_cons_succ]
            refine take_drop (i := 14) (v := undef) rfl (by kernel_rfl) (by kernel_rfl) (by kernel_rfl) (fun _ _ _ h => h) (Or.inr ⟨by rfl, rfl⟩) hHeld ?_
            simp only [Act.put, List.setIfInBounds_toArray, List.set_cons_zero, List.set_cons_succ]
            refine take_drop (i := 15) (v := undef) rfl (by kernel_rfl) (by kernel_rfl) (by kernel_rfl) (fun _ _ _ h => h) (Or.inr ⟨by rfl, rfl⟩) hHeld ?_
            simp only [Act.put, List.setIfInBounds_toArray, List.set_cons_zero, List.set_cons_succ]
            refine take_drop (i := 16) (v := undef) rfl (by kernel_rfl) (by kernel_rfl) (by kernel_rfl) (fun _ _ _ h => h) (Or.inr ⟨by rfl, rfl⟩) hHeld ?_
            simp only [Act.put, List.setIfInBounds_toArray, List.set_cons_zero, List.set_cons_succ]
            refine take_drop (i := 17) (v := undef) rfl (by kernel_rfl) (by kernel_rfl) (by kernel_rfl) (fun _ _ _ h => h) (Or.inr ⟨by rfl, rfl⟩) hHeld ?_
            simp only [Act.put, List.setIfInBounds_toArray, List.set_cons_zero, List.set_cons_succ]
            refine take_drop (i := 18) (v := undef) rfl (by kernel_rfl) (by kernel_rfl) (by kernel_rfl) (fun _ _ _ h => h) (Or.inr ⟨by rfl, rfl⟩) hHeld ?_
            simp only [Act.put, List.setIfInBounds_toArray, List.set_cons_zero, List.set_cons_succ]
            refine take_drop (i := 19) (v := undef) rfl (by kernel_rfl) (by kernel_rfl) (by kernel_rfl) (fun _ _ _ h => h) (Or.inr ⟨by rfl, rfl⟩) hHeld ?_
            simp only [Act.put, List.setIfInBounds_toArray, List.set_cons_zero, List.set_cons_succ]
            refine take_drop (i := 20) (v := undef) rfl (by kernel_rfl) (by kernel_rfl) (by kernel_rfl) (fun _ _ _ h => h) (Or.inr ⟨by rfl, rfl⟩) hHeld ?_
            simp only [Act.put, List.setIfInBounds_toArray, List.set_cons_zero, List.set_cons_succ]
            refine take_drop (i := 21) (v := undef) rfl (by kernel_rfl) (by kernel_rfl) (by kernel_rfl) (fun _ _ _ h => h) (Or.inr ⟨by rfl, rfl⟩) hHeld ?_
            simp only [Act.put, List.setIfInBounds_toArray, List.set_cons_zero, List.set_cons_succ]
            refine take_drop (i := 22) (v := undef) rfl (by kernel_rfl) (by kernel_rfl) (by kernel_rfl) (fun _ _ _ h => h) (Or.inr ⟨by rfl, rfl⟩) hHeld ?_
            simp only [Act.put, List.setIfInBounds_toArray, List.set_cons_zero, List.set_cons_succ]
            refine take_drop (i := 23) (v := undef) rfl (by kernel_rfl) (by kernel_rfl) (by kernel_rfl) (fun _ _ _ h => h) (Or.inr ⟨by rfl, rfl⟩) hHeld ?_
            simp only [Act.put, List.setIfInBounds_toArray, List.set_cons_zero, List.set_cons_succ]
            refine take_drop (i := 24) (v := undef) rfl (by kernel_rfl) (by kernel_rfl) (by kernel_rfl) (fun _ _ _ h => h) (Or.inr ⟨by rfl, rfl⟩) hHeld ?_
            simp only [Act.put, List.setIfInBounds_toArray, List.set_cons_zero, List.set_cons_succ]
            refine take_drop (i := 25) (v := undef) rfl (by kernel_rfl) (by kernel_rfl) (by kernel_rfl) (fun _ _ _ h => h) (Or.inr ⟨by rfl, rfl⟩) hHeld ?_
            simp only [Act.put, List.setIfInBounds_toArray, List.set_cons_zero, List.set_cons_succ]
            refine take_drop (i := 26) (v := ?v26_2) rfl (by kernel_rfl) (by kernel_rfl) (by kernel_rfl) (fun _ _ _ h => h) (Or.inl ⟨by rfl, ?h26_2⟩) hHeld ?r26_2
            case h26_2 => (intro wS hSw; go_simp; all_goals (with_reducible rfl))
            simp only [Act.put, List.setIfInBounds_toArray, List.set_cons_zero, List.set_cons_succ]
            refine take_drop (i := 27) (v := ?v27_2) rfl (by kernel_rfl) (by kernel_rfl) (by kernel_rfl) (fun _ _ _ h => h) (Or.inl ⟨by rfl, ?h27_2⟩) hHeld ?r27_2
            case h27_2 => (intro wS hSw; go_simp; all_goals (with_reducible rfl))
            simp only [Act.put, List.setIfInBounds_toArray, List.set_cons_zero, List.set_cons_succ]
            refine take_drop (i := 28) (v := undef) rfl (by kernel_rfl) (by kernel_rfl) (by kernel_rfl) (fun _ _ _ h => h) (Or.inr ⟨by rfl, rfl⟩) hHeld ?_
            simp only [Act.put, List.setIfInBounds_toArray, List.set_cons_zero, List.set_cons_succ]
            refine take_drop (i := 29) (v := undef) rfl (by kernel_rfl) (by kernel_rfl) (by kernel_rfl) (fun _ _ _ h => h) (Or.inr ⟨by rfl, rfl⟩) hHeld ?_
            simp only [Act.put, List.setIfInBounds_toArray, List.set_cons_zero, List.set_cons_succ]
            refine take_drop (i := 30) (v := undef) rfl (by kernel_rfl) (by kernel_rfl) (by kernel_rfl) (fun _ _ _ h => h) (Or.inr ⟨by rfl, rfl⟩) hHeld ?_
            simp only [Act.put, List.setIfInBounds_toArray, List.set_cons_zero, List.set_cons_succ]
            refine take_drop (i := 31) (v := undef) rfl (by kernel_rfl) (by kernel_rfl) (by kernel_rfl) (fun _ _ _ h => h) (Or.inr ⟨by rfl, rfl⟩) hHeld ?_
            simp only [Act.put, List.setIfInBounds_toArray, List.set_cons_zero, List.set_cons_succ]
            refine take_drop (i := 32) (v := undef) rfl (by kernel_rfl) (by kernel_rfl) (by kernel_rfl) (fun _ _ _ h => h) (Or.inr ⟨by rfl, rfl⟩) hHeld ?_
            simp only [Act.put, List.setIfInBounds_toArray, List.set_cons_zero, List.set_cons_succ]
            refine take_drop (i := 33) (v := undef) rfl (by kernel_rfl) (by kernel_rfl) (by kernel_rfl) (fun _ _ _ h => h) (Or.inr ⟨by rfl, rfl⟩) hHeld ?_
            simp only [Act.put, List.setIfInBounds_toArray, List.set_cons_zero, List.set_cons_succ]
            refine take_drop (i := 34) (v := ?v34_2) rfl (by kernel_rfl) (by kernel_rfl) (by kernel_rfl) (fun _ _ _ h => h) (Or.inl ⟨by rfl, ?h34_2⟩) hHeld ?r34_2
            case h34_2 => (intro wS hSw; go_simp; all_goals (with_reducible rfl))
            simp only [Act.put, List.setIfInBounds_toArray, List.set_cons_zero, List.set_cons_succ]
            refine wpAnyH_done (by kernel_rfl) ?_ _
            clear hHeld z1 z0
            go_wp2_with fail
            go_roundw
            case rel => exact ⟨j + 1, F7, m7, xs, fs, X, by simp, by omega, HOD.out, HKD.out, HR7.out, hd7⟩
            case measure => simp [intOf]; omega
        by_cases k3 : xk = 3
        · as_aux_lemma =>
          subst k3
          have HC7 := Lib.hid (HO1.out.reset HM.out hd6 HWF.out.1)
          have hd7 : (resM m xz).done ≤ j + 1 := Nat.le_trans ((step_res m xz).d) (by omega)
          by_cases hE0 : cmdR m (resErr m xz) = 0
          · have hz : hasZ m xz = true := by
              unfold cmdR at hE0
              split at hE0
              · rename_i h3; exact (resErr_ok h3).2
              · rename_i h3; exact absurd hE0 h3
            obtain ⟨hz0, hz1⟩ := hasZ_iff.1 hz
            obtain ⟨q, rfl⟩ : ∃ q : Nat, xz = (q : Int) := ⟨xz.toNat, by omega⟩
            have hq : q < Z := by rw [← HKR.out.z]; omega
            have HR7 := Lib.hid (HKR.out.res hq hE0)
            rw [hE0] at HC7
            clear hE0 hz hz0 hz1
            obtain ⟨m7, hm7⟩ : ∃ x, resM m (q : Int) = x := ⟨_, rfl⟩
            rw [hm7] at HC7 hd7 HR7
            clear hm7
            go_wp2_with fail
            try rw [hwv]
            refine HC7.out.mono ?_
            rintro e w7 ⟨rfl, F7, hO7, hF7, f7⟩
            have HO7 := Lib.hid hO7
            have HK7 := Lib.hid (HK1.out.keep f7 (fun _ h => h) hF7)
            have hA7 := HA1.out.keep f7 HNF.out
            have v1 := hA7.cell 1
            simp at v1
            obtain ⟨cL, gL⟩ := HK7.out.cellL hq
            obtain ⟨cG, gG⟩ := HK7.out.cellG hq
            have hs8 := HK7.out.setL (X' := X) hq tx0 (Nat.le_refl _) (by simp [tx0, maxLen]) (In.nil _ _ _) (fun _ h => h) HK7.out.hi HK7.out.ap
            have hs9 := hs8.1.setG q 0
            obtain ⟨cG2, gG2⟩ := hs8.1.cellG hq
            have v1b := hs8.2.cell v1 (fun e => HNL.out.1 e)
            rw [show (Value.slice tx0.a tx0.b.length tx0.c) = .slice none 0 0 from rfl] at cG2 gG2 v1b
            have HO9 := Lib.hid ((HO7.out.keepK HM.out hs8.2 (fun k hk e => HK7.out.nl ((show k = L from e) ▸ hk)) (fun k e => by rw [show k = L from e]; exact HK7.out.lw)).keepK HM.out hs9.2 (fun k hk e => HK7.out.ng ((show k = G from e) ▸ hk)) (fun k e => by rw [show k = G from e]; exact HK7.out.gw))
            have HK9 := hs9.1
            have HO10 := Lib.hid (HO9.out.keep HM.out (Fr.refl No _).drew)
            have HK10 := Lib.hid (HK9.tell (Fr.refl No _).drew)
            have HLGN := Lib.hid HK7.out.lg
            clear hO7 HC7 hF7 f7 hs8 hs9 hA7 HK9
            go_wp2_with fail
            go_region
            go_wp2_with fail
            go_roundw
            case rel => exact ⟨j + 1, F7, m7, _, _, X, by simp, by omega, HO10.out, HK10.out, HR7.out, hd7⟩
            case measure => simp [intOf]; omega
          · have HR7 := Lib.hid (HKR.out.same (resM_zs hE0))
            have dE : (cmdR m (resErr m xz) == 0) = false := by rw [beq_eq_false_iff_ne]; exact hE0
            clear hE0
            obtain ⟨m7, hm7⟩ : ∃ x, resM m xz = x := ⟨_, rfl⟩
            obtain ⟨E, hE⟩ : ∃ x, cmdR m (resErr m xz) = x := ⟨_, rfl⟩
            rw [hm7] at HC7 hd7 HR7
            rw [hE] at HC7 dE
            clear hm7 hE
            go_wp2_with fail
            try rw [hwv]
            refine HC7.out.mono ?_
            rintro e w7 ⟨rfl, F7, hO7, hF7, f7⟩
            have HO7 := Lib.hid hO7
            have HK7 := Lib.hid (HK1.out.keep f7 (fun _ h => h) hF7)
            clear hO7 HC7 hF7 f7
            go_wp2_with fail
            go_roundw
            case rel => exact ⟨j + 1, F7, m7, xs, fs, X, by simp, by omega, HO7.out, HK7.out, HR7.out, hd7⟩
            case measure => simp [intOf]; omega
        by_cases k4 : xk = 4
        · as_aux_lemma =>
          subst k4
          have HC7 := Lib.hid (HO1.out.finish HM.out hd6 HWF.out.1)
          have hd7 : (finM m xz).done ≤ j + 1 := Nat.le_trans ((step_fin m xz).d) (by omega)
          have HR7 := Lib.hid (HKR.out.fin xz)
          obtain ⟨m7, hm7⟩ : ∃ x, finM m xz = x := ⟨_, rfl⟩
          obtain ⟨E, hE⟩ : ∃ x, cmdR m (finErr m xz) = x := ⟨_, rfl⟩
          rw [hm7] at HC7 hd7 HR7
          rw [hE] at HC7
          clear hm7 hE
          go_wp2_with fail
          try rw [hwv]
          refine HC7.out.mono ?_
          rintro e w7 ⟨rfl, F7, hO7, hF7, f7⟩
          have HO7 := Lib.hid hO7
          have HK7 := Lib.hid (HK1.out.keep f7 (fun _ h => h) hF7)
          have HA7 := Lib.hid (HA1.out.keep f7 HNF.out)
          clear hO7 HC7
          clear hF7 f7
          go_wp2_with fail
          go_roundw
          case rel => exact ⟨j + 1, F7, m7, xs, fs, X, by simp, by omega, HO7.out, HK7.out, HR7.out, hd7⟩
          case measure => simp [intOf]; omega
        by_cases k5 : xk = 5
        · as_aux_lemma =>
          subst k5
          have HC7 := Lib.hid (HO1.out.flush HM.out hd6)
          have hd7 : (fluM m).done ≤ j + 1 := Nat.le_trans ((step_flu m).d) (by omega)
          by_cases hE0 : cmdR m (fluErr m) = 0
          · have HRF : Hid (∀ fs' : List Nat, fs'.length = Z → (∀ i, i < Z → fs'.getD i 0 = (xs.getD i tx0).b.length) → KR (fluM m) Z xs fs') := Lib.hid fun fs' h1 h2 => HKR.out.flu hE0 h1 h2
            rw [hE0] at HC7
            clear hE0
            obtain ⟨m7, hm7⟩ : ∃ x, fluM m = x := ⟨_, rfl⟩
            rw [hm7] at HC7 hd7 HRF
            clear hm7
            go_wp2_with fail
            try rw [hwv]
            refine HC7.out.mono ?_
            rintro e w7 ⟨rfl, F7, hO7, hF7, f7⟩
            have HO7 := Lib.hid hO7
            have HK7 := Lib.hid (HK1.out.keep f7 (fun _ h => h) hF7)
            clear hO7 HC7 hF7 f7
            go_wp2_with fail
            go_loopw [143] (fun i w2 => ∃ (q : Nat) (fs' : List Nat), i = .int .i64 q ∧ q ≤ Z ∧ OwnZ D W1 w2 d F7 m7 ∧ KS W1 w2 L G Z xs fs' F7 X ∧ ∀ i, i < q → fs'.getD i 0 = (xs.getD i tx0).b.length) (fun i _ => Z - (intOf i).toNat)
            case atStart => exact ⟨0, fs, rfl, Nat.zero_le _, HO7.out, HK7.out, fun i h => absurd h (Nat.not_lt_zero i)⟩
            case round =>
              clear HO7 HK7
              obtain ⟨q, fs', rfl, hq, hO8, hK8, hall⟩ := hrel
              have HO8 := Lib.hid hO8
              have HK8 := Lib.hid hK8
              have HALL := Lib.hid hall
              clear hO8 hK8 hall
              by_cases h2 : q < Z
              · have d2 : decide ((q : Int) < (Z : Int)) = true := by rw [decide_eq_true_eq]; omega
                obtain ⟨cL, gL⟩ := HK8.out.cellL h2
                obtain ⟨cG, gG⟩ := HK8.out.cellG h2
                have hel := (HK8.out.el q h2).1
                have hec := (HK8.out.el q h2).2.1
                unfold maxLen at hec
                obtain ⟨bl, hbl⟩ : ∃ x, (xs.getD q tx0).b.length = x := ⟨_, rfl⟩
                rw [hbl] at cL hel
                have HBL := Lib.hid hbl
                have hs9 := HK8.out.setG q bl
                have HO9 := Lib.hid (HO8.out.keepK HM.out hs9.2 (fun k hk e => HK8.out.ng ((show k = G from e) ▸ hk)) (fun k e => by rw [show k = G from e]; exact HK8.out.gw))
                have HK9 := Lib.hid hs9.1
                have HALL9 : Hid (∀ i, i < q + 1 → (fs'.set q bl).getD i 0 = (xs.getD i tx0).b.length) := Lib.hid fun i hi => by
                  rw [getD_set_nat fs' q i bl (by rw [HK8.out.fl]; exact h2)]
                  by_cases e : i = q
                  · subst e
                    rw [if_pos rfl, HBL.out]
                  · rw [if_neg e]
                    exact HALL.out i (by omega)
                clear hs9 hbl
                go_wp2_with fail
                go_roundw
                case rel => exact ⟨q + 1, _, by simp, by omega, HO9.out, HK9.out, HALL9.out⟩
                case measure => simp [intOf]; omega
              · obtain rfl : q = Z := by omega
                have d2 : decide ((q : Int) < (q : Int)) = false := by simp
                have HR7 := Lib.hid (HRF.out fs' HK8.out.fl HALL.out)
                go_wp2_with fail
                go_roundw
                case rel => exact ⟨j + 1, F7, m7, xs, fs', X, by simp, by omega, HO8.out, HK8.out, HR7.out, hd7⟩
                case measure => simp [intOf]; omega
          · have HR7 := Lib.hid (HKR.out.same (fluM_zs hE0))
            have dE : (cmdR m (fluErr m) == 0) = false := by rw [beq_eq_false_iff_ne]; exact hE0
            clear hE0
            obtain ⟨m7, hm7⟩ : ∃ x, fluM m = x := ⟨_, rfl⟩
            obtain ⟨E, hE⟩ : ∃ x, cmdR m (fluErr m) = x := ⟨_, rfl⟩
            rw [hm7] at HC7 hd7 HR7
            rw [hE] at HC7 dE
            clear hm7 hE
            go_wp2_with fail
            try rw [hwv]
            refine HC7.out.mono ?_
            rintro e w7 ⟨rfl, F7, hO7, hF7, f7⟩
            have HO7 := Lib.hid hO7
            have HK7 := Lib.hid (HK1.out.keep f7 (fun _ h => h) hF7)
            clear hO7 HC7 hF7 f7
            go_wp2_with fail
            go_roundw
            case rel => exact ⟨j + 1, F7, m7, xs, fs, X, by simp, by omega, HO7.out, HK7.out, HR7.out, hd7⟩
            case measure => simp [intOf]; omega
        by_cases k6 : xk = 6
        · as_aux_lemma =>
          subst k6
          have HC7 := Lib.hid (HO1.out.arm HM.out HWF.out.2.2)
          have hd7 : (armM m xn).done ≤ j + 1 := Nat.le_trans (Nat.le_succ m.done) (by omega)
          have HR7 : Hid (KR (armM m xn) Z xs fs) := Lib.hid (HKR.out.same rfl)
          obtain ⟨m7, hm7⟩ : ∃ x, armM m xn = x := ⟨_, rfl⟩
          rw [hm7] at HC7 hd7 HR7
          clear hm7
          go_wp2_with fail
          try rw [hwv]
          refine HC7.out.mono ?_
          rintro e w7 ⟨rfl, F7, hO7, hF7, f7⟩
          have HO7 := Lib.hid hO7
          have HK7 := Lib.hid (HK1.out.keep f7 (fun _ h => h) hF7)
          have HA7 := Lib.hid (HA1.out.keep f7 HNF.out)
          clear hO7 HC7
          clear hF7 f7
          go_wp2_with fail
          go_roundw
          case rel => exact ⟨j + 1, F7, m7, xs, fs, X, by simp, by omega, HO7.out, HK7.out, HR7.out, hd7⟩
          case measure => simp [intOf]; omega
        by_cases k7 : xk = 7
        · as_aux_lemma =>
          subst k7
          have HC7 := Lib.hid (HO1.out.crash HM.out (by have := HSZ.out.2; omega) (by rw [HKN.out]; exact HKL.out.1) HKL.out.2.1 HKL.out.2.2)
          have hd7 : (crashM m xks).done ≤ j + 1 := Nat.le_trans (Nat.le_succ m.done) (by omega)
          rw [HKN.out] at HC7
          have HAT : Hid (∀ i, i < Z → ∃ n, fM (crashM m xks) i = n ∧ bM (crashM m xks) i = (bM m i).take n ∧ fM m i ≤ n ∧ n ≤ (bM m i).length) := Lib.hid fun i hi => crash_at HO1.out.wf xks (by rw [HKR.out.z]; exact hi)
          have HZL : Hid ((crashM m xks).zs.length = Z) := Lib.hid ((crash_zs m xks).trans HKR.out.z)
          have HDN7 : Hid ((crashM m xks).down = false) := Lib.hid rfl
          obtain ⟨m7, hm7⟩ : ∃ x, crashM m xks = x := ⟨_, rfl⟩
          rw [hm7] at HC7 hd7 HAT HZL HDN7
          clear hm7
          go_wp2_with fail
          try rw [hwv]
          refine HC7.out.mono ?_
          rintro e w7 ⟨rfl, F7, hO7, hF7, f7⟩
          have HO7 := Lib.hid hO7
          have HK7 := Lib.hid (HK1.out.keep f7 (fun _ h => h) hF7)
          have HA7 := Lib.hid (HA1.out.keep f7 HNF.out)
          clear hO7 HC7
          clear hF7 f7
          go_wp2_with fail
          go_loopw [169] (fun i w2 => ∃ (q : Nat) (xs' : List Tx) (fs' : List Nat) (X' : Nat → Prop), i = .int .i64 q ∧ q ≤ Z ∧ OwnZ D W1 w2 d F7 m7 ∧ KS W1 w2 L G Z xs' fs' F7 X' ∧ (∀ i, i < q → (xs'.getD i tx0).b = bM m7 i ∧ fs'.getD i 0 = fM m7 i) ∧ (∀ i, q ≤ i → i < Z → (xs'.getD i tx0).b = bM m i ∧ fs'.getD i 0 = fM m i)) (fun i _ => Z - (intOf i).toNat)
          case atStart => exact ⟨0, xs, fs, X, rfl, Nat.zero_le _, HO7.out, HK7.out, fun i h => absurd h (Nat.not_lt_zero i), fun i _ hi => ⟨HKR.out.b i hi, HKR.out.f i hi⟩⟩
          case round =>
            clear HO7 HK7 HA7
            obtain ⟨q, xs', fs', X', rfl, hq, hO8, hK8, hdo, hre⟩ := hrel
            have HO8 := Lib.hid hO8
            have HK8 := Lib.hid hK8
            have HDO := Lib.hid hdo
            have HRE := Lib.hid hre
            clear hO8 hK8 hdo hre
            by_cases h2 : q < Z
            · have d2 : decide ((q : Int) < (Z : Int)) = true := by rw [decide_eq_true_eq]; omega
              have wq : wf64 (q : Int) := wf_small (by omega) (by omega)
              have hqz : hasZ m7 (q : Int) = true := hasZ_iff.2 ⟨by omega, by rw [HZL.out]; omega⟩
              obtain ⟨n, hn1, hn2, hn3, hn4⟩ := HAT.out q h2
              obtain ⟨hx1, hx2⟩ := HRE.out q (Nat.le_refl _) h2
              have hbz : (zoneM m7 (q : Int)).b = bM m7 q := by rw [zoneM_nat]; rfl
              have hfz : (zoneM m7 (q : Int)).f = n := by rw [zoneM_nat, ← hn1]; rfl
              have hbl : (bM m7 q).length = n := by rw [hn2, List.length_take]; omega
              have hn64 : n ≤ 65536 := by
                have h3 := (zoneM_ok HO8.out.wf (q : Int)).l
                rw [hbz, hbl] at h3
                have := HO8.out.wf.s64
                omega
              have wn : wf64 (n : Int) := wf_small (by omega) (by omega)
              have HPT := Lib.hid (HO8.out.pointer HM.out wq)
              have ep : ptrM m7 (q : Int) = (n : Int) := by unfold ptrM; rw [if_pos hqz, hbz, hbl]
              rw [ep] at HPT
              have er : rdErr m7 (q : Int) 0 (n : Int) = 0 := by
                unfold rdErr
                rw [HDN7.out, if_neg (by simp), hqz, if_neg (by simp), if_neg]
                rw [hbz, hbl]
                simp
              have eb : rdB m7 (q : Int) 0 (n : Int) = bM m7 q := by
                unfold rdB
                rw [er, if_pos rfl, hbz]
                show ((bM m7 q).drop 0).take ((n : Int)).toNat = _
                rw [List.drop_zero, show ((n : Int)).toNat = n by omega, ← hbl, List.take_length]
              have HRD7 : Hid (∀ w, OwnZ D W1 w d F7 m7 → Calls Try.prog 18 #[.pointer (some ⟨d, 0, none⟩), .int .i64 (q : Int), .int .i64 0, .int .i64 (n : Int)] w fun e w' => ∃ a c, e = .returned (.tuple #[.slice a n c, .int .i64 0]) ∧ n ≤ c ∧ c ≤ maxLen ∧ In w' (From w.heap.size) a (bM m7 q) ∧ OwnZ D W1 w' d F7 m7 ∧ Fr No w w') := Lib.hid fun w h => by
                have := h.read HM.out wq (t := 0) (by decide) wn
                rw [er, eb, hbl] at this
                exact this
              have HFL : Hid (∀ w, OwnZ D W1 w d F7 m7 → Calls Try.prog 20 #[.pointer (some ⟨d, 0, none⟩), .int .i64 (q : Int)] w (ToldZ D W1 w d F7 m7 (.int .i64 (n : Int)))) := Lib.hid fun w h => by
                have := h.flushed HM.out wq
                unfold fldM at this
                rw [if_pos hqz, hfz] at this
                exact this
              have HBL := Lib.hid hbl
              have HFM := Lib.hid hn1
              have HTK : Hid (bM m7 q = (xs'.getD q tx0).b.take n) := Lib.hid (by rw [hx1]; exact hn2)
              rw [← hx2] at hn3
              rw [← hx1] at hn4
              clear hqz hbz hfz hbl hn1 hn2 hx1 hx2 wq wn ep er eb
              go_wp2_with fail
              refine HPT.out.mono ?_
              rintro e w9 ⟨rfl, hO9, f9⟩
              have HO9 := Lib.hid hO9
              have HK9 := Lib.hid (HK8.out.tell f9)
              clear hO9 f9 HPT HO8 HK8
              go_wp2_with fail
              refine (HRD7.out _ HO9.out).mono ?_
              rintro e w10 ⟨ra, rc, rfl, hrc, hrm, hin, hO10, f10⟩
              have HO10 := Lib.hid hO10
              have hK10 := HK9.out.tell f10
              obtain ⟨cL, gL⟩ := hK10.cellL h2
              obtain ⟨cG, gG⟩ := hK10.cellG h2
              have hel := (hK10.el q h2).1
              have hec := (hK10.el q h2).2.1
              have HEL := Lib.hid (hK10.el q h2).2.2
              unfold maxLen at hec hrm
              have HIN := Lib.hid hin
              have HNEWX : Hid (∀ k, From w9.heap.size k → k < w10.heap.size → ¬ F7 k ∧ k ≠ L ∧ k ≠ G) := Lib.hid fun k hk hk2 => ⟨HO9.out.low HM.out k hk, fun e => by have := HK9.out.la.lt; rw [← e] at this; exact absurd (show w9.heap.size ≤ k from hk) (by omega), fun e => by have := HK9.out.sa.lt; rw [← e] at this; exact absurd (show w9.heap.size ≤ k from hk) (by omega)⟩
              obtain ⟨ta, hta⟩ : ∃ x, (xs'.getD q tx0).a = x := ⟨_, rfl⟩
              obtain ⟨tb, htb⟩ : ∃ x, (xs'.getD q tx0).b = x := ⟨_, rfl⟩
              obtain ⟨tc, htc⟩ : ∃ x, (xs'.getD q tx0).c = x := ⟨_, rfl⟩
              obtain ⟨sv, hsv⟩ : ∃ x, fs'.getD q 0 = x := ⟨_, rfl⟩
              rw [hta, htb, htc] at cL
              rw [htb, htc] at hel
              rw [htc] at hec
              rw [hta, htb] at HEL
              rw [htb] at HTK hn4
              rw [hsv] at cG hn3
              obtain ⟨tn, htn⟩ : ∃ x, tb.length = x := ⟨_, rfl⟩
              rw [htn] at cL hel hn4
              have HTN := Lib.hid htn
              have HK10 := Lib.hid hK10
              clear hK10 hta htb htc hsv htn hin hO10 f10
              have e1 : decide ((n : Int) < (sv : Int)) = false := by rw [decide_eq_false_iff_not]; omega
              have e2 : decide ((tn : Int) < (n : Int)) = false := by rw [decide_eq_false_iff_not]; omega
              have hcut := cut_hi (P := Try.prog) Try.underlying31 sizeU8' ta tn tc n (by omega)
              have HSA := Lib.hid (same_yes (a := ra) (a' := ta) (len := n) (cap := rc) (len' := n) (cap' := tc) (w := w10) HBL.out (by rw [List.length_take, HTN.out]; omega) HIN.out.rd (HEL.out.rd.take n) HTK.out)
              have dz : ((n : Int) == (n : Int)) = true := by simp
              go_wp2_with fail
              refine HSA.out.mono ?_
              rintro e w11 ⟨rfl, rfl⟩
              go_wp2_with fail
              refine (HFL.out _ HO10.out).mono ?_
              rintro e w12 ⟨rfl, hO12, f12⟩
              have HO12 := Lib.hid hO12
              have hK12 := HK10.out.tell f12
              obtain ⟨cL, gL⟩ := hK12.cellL h2
              obtain ⟨cG, gG⟩ := hK12.cellG h2
              have hin12 := HIN.out.keep f12 (fun _ _ h => h)
              have hs13 := hK12.setL (X' := fun k => X' k ∨ (From w9.heap.size k ∧ k < w10.heap.size)) h2 ⟨ra, rc, bM m7 q⟩ (by show (bM m7 q).length ≤ rc; rw [HBL.out]; exact hrc) (by unfold maxLen; exact hrm) (by
                have h3 : In w10 (fun k => X' k ∨ (From w9.heap.size k ∧ k < w10.heap.size)) ra (bM m7 q) := HIN.out.sub fun k hk hf => .inr ⟨hf, hk⟩
                exact h3.keep f12 (fun _ _ h => h)) (fun _ h => .inl h) (fun k hk => hk.elim (hK12.hi k) (fun h => Nat.lt_of_lt_of_le h.2 f12.size)) (fun k hk => hk.elim (hK12.ap k) (fun h => HNEWX.out k h.1 h.2))
              rw [show (⟨ra, rc, bM m7 q⟩ : Tx).b.length = n from HBL.out] at hs13
              have hs14 := hs13.1.setG q n
              obtain ⟨cG2, gG2⟩ := hs13.1.cellG h2
              have HO13 := HO12.out.keepK HM.out hs13.2 (fun k hk e => hK12.nl ((show k = L from e) ▸ hk)) (fun k e => by rw [show k = L from e]; exact hK12.lw)
              have HO14 := Lib.hid (HO13.keepK HM.out hs14.2 (fun k hk e => hK12.ng ((show k = G from e) ▸ hk)) (fun k e => by rw [show k = G from e]; exact hK12.gw))
              have HK14 := Lib.hid hs14.1
              have hxl : q < xs'.length := by rw [hK12.xl]; exact h2
              have hfl : q < fs'.length := by rw [hK12.fl]; exact h2
              have HDO2 : Hid (∀ i, i < q + 1 → ((xs'.set q ⟨ra, rc, bM m7 q⟩).getD i tx0).b = bM m7 i ∧ (fs'.set q n).getD i 0 = fM m7 i) := Lib.hid fun i hi => by
                rw [getD_set_tx xs' q i _ hxl, getD_set_nat fs' q i _ hfl]
                by_cases e : i = q
                · subst e
                  rw [if_pos rfl, if_pos rfl]
                  exact ⟨rfl, HFM.out.symm⟩
                · rw [if_neg e, if_neg e]
                  exact HDO.out i (by omega)
              have HRE2 : Hid (∀ i, q + 1 ≤ i → i < Z → ((xs'.set q ⟨ra, rc, bM m7 q⟩).getD i tx0).b = bM m i ∧ (fs'.set q n).getD i 0 = fM m i) := Lib.hid fun i hi hz => by
                rw [getD_set_tx xs' q i _ hxl, getD_set_nat fs' q i _ hfl, if_neg (by omega), if_neg (by omega)]
                exact HRE.out i (by omega) hz
              clear hs13 hs14 hK12 hin12 hO12 f12 hxl hfl HO13
              go_wp2_with fail
              go_roundw
              case rel => exact ⟨q + 1, _, _, _, by simp, by omega, HO14.out, HK14.out, HDO2.out, HRE2.out⟩
              case measure => simp [intOf]; omega
            · obtain rfl : q = Z := by omega
              have d2 : decide ((q : Int) < (q : Int)) = false := by simp
              have HR7 : Hid (KR m7 q xs' fs') := Lib.hid ⟨HZL.out, HK8.out.xl, HK8.out.fl, fun i hi => (HDO.out i hi).1, fun i hi => (HDO.out i hi).2⟩
              go_wp2_with fail
              go_roundw
              case rel => exact ⟨j + 1, F7, m7, xs', fs', X', by simp, by omega, HO8.out, HK8.out, HR7.out, hd7⟩
              case measure => simp [intOf]; omega
        have b1 : (xk == 1) = false := by rw [beq_eq_false_iff_ne]; exact k1
        have b3 : (xk == 3) = false := by rw [beq_eq_false_iff_ne]; exact k3
        have b4 : (xk == 4) = false := by rw [beq_eq_false_iff_ne]; exact k4
        have b5 : (xk == 5) = false := by rw [beq_eq_false_iff_ne]; exact k5
        have b6 : (xk == 6) = false := by rw [beq_eq_false_iff_ne]; exact k6
        have b7 : (xk == 7) = false := by rw [beq_eq_false_iff_ne]; exact k7
        clear k1 k3 k4 k5 k6 k7
        have hd7 : m.done ≤ j + 1 := by omega
        go_wp2_with fail
        try rw [hwv]
        go_roundw
        case rel => exact ⟨j + 1, F, m, xs, fs, X, by simp, by omega, HO1.out, HK1.out, HKR.out, hd7⟩
        case measure => simp [intOf]; omega
      · obtain rfl : j = N := by omega
        have d1 : decide ((j : Int) < (j : Int)) = false := by simp
        go_wp2_with fail
        refine (awake_c HM.out _).mono ?_
        rintro e w5 ⟨rfl, f5⟩
        have HF5 := Lib.hid (HF0.out.trans (HO.out.fr.trans f5))
        clear f5
        go_wp2_with fail
        go_ret
        exact ⟨rfl, FIN.out _ HF5.out⟩
end
end Go.Proofs.Ytkoebafalbcnbaa
