/-
  Layer 7: the walk of ZoneOpens, over the contracts of a device.
-/
import Derived.Test.YtkoebafalbcnbaaZoD
import Derived.Test.YtkoebafalbcnbaaZoP
import Derived.Deep.Cut
import Derived.Deep.CutRange
import Derived.Deep.CutBlock
namespace Go.Proofs.Ytkoebafalbcnbaa
set_option linter.unusedVariables false
open Go.RowKit

structure GeoI (m : Dev) (Z S O : Nat) : Prop where
  z : m.zs.length = Z
  s : m.size = S
  o : m.opn = O
theorem geo_pow {m : Dev} {Z S O : Nat} (h : GeoI m Z S O) : GeoI (powM m) Z S O := by
  unfold powM
  split <;> exact ⟨h.z, h.s, h.o⟩
theorem geo_set {m : Dev} {Z S O : Nat} (h : GeoI m Z S O) (z : Int) (x : Zn) : GeoI (setZ m z x) Z S O := ⟨by rw [← h.z]; simp [setZ], h.s, h.o⟩
theorem geo_app {m : Dev} {Z S O : Nat} (h : GeoI m Z S O) (z : Int) (b : List UInt8) : GeoI (appM m z b) Z S O := by
  unfold appM
  split
  · exact geo_pow (geo_set h z _)
  · exact h
theorem geo_res {m : Dev} {Z S O : Nat} (h : GeoI m Z S O) (z : Int) : GeoI (resM m z) Z S O := by
  unfold resM
  split
  · split
    · exact geo_pow (geo_set h z _)
    · exact geo_pow h
  · exact h
theorem geo_fin {m : Dev} {Z S O : Nat} (h : GeoI m Z S O) (z : Int) : GeoI (finM m z) Z S O := by
  unfold finM
  split
  · split
    · exact geo_pow (geo_set h z _)
    · exact geo_pow h
  · exact h
theorem geo_flu {m : Dev} {Z S O : Nat} (h : GeoI m Z S O) : GeoI (fluM m) Z S O := by
  unfold fluM
  split
  · split
    · exact geo_pow ⟨by rw [← h.z]; simp [allFlushed], h.s, h.o⟩
    · exact geo_pow h
  · exact h
theorem geo_arm {m : Dev} {Z S O : Nat} (h : GeoI m Z S O) (n : Int) : GeoI (armM m n) Z S O := ⟨h.z, h.s, h.o⟩
theorem geo_crash {m : Dev} {Z S O : Nat} (h : GeoI m Z S O) (ks : List Int) : GeoI (crashM m ks) Z S O := ⟨by rw [← h.z]; exact crashL_length .., h.s, h.o⟩
theorem crash_done (m : Dev) (ks : List Int) : (crashM m ks).done = m.done := rfl
theorem arm_done (m : Dev) (n : Int) : (armM m n).done = m.done := rfl
/-- A full zone takes nothing. -/
theorem full_app {m : Dev} {z : Int} (b : List UInt8) (h : stateM m z = 2) : (cmdR m (appErr m z b) == 0) = false ∧ appM m z b = m := by
  have hz : hasZ m z = true := by
    unfold stateM at h
    split at h
    · rename_i h1; exact h1
    · omega
  have hs : (zoneM m z).s = 2 := by
    unfold stateM at h
    rw [if_pos hz] at h
    omega
  have he : appErr m z b = 74 ∨ appErr m z b = 71 := by
    unfold appErr
    cases m.down with
    | true => exact .inl rfl
    | false =>
      rw [if_neg (by simp), hz, if_neg (by simp), hs]
      exact .inr rfl
  have h0 : ¬ appErr m z b = 0 := by omega
  refine ⟨?_, by unfold appM; rw [if_neg h0]⟩
  rw [cmdR_err h0, beq_eq_false_iff_ne]
  exact h0
/-- How many of the first q zones are open. -/
def cntO (m : Dev) (q : Nat) : Nat := (m.zs.take q).countP fun x => x.s == 1
theorem cntO_le (m : Dev) (q : Nat) : cntO m q ≤ q := by
  unfold cntO
  exact Nat.le_trans List.countP_le_length (by rw [List.length_take]; omega)
theorem cntO_succ (m : Dev) (q : Nat) (h : q < m.zs.length) : cntO m (q + 1) = cntO m q + (if ((zoneM m (q : Int)).s == 1) = true then 1 else 0) := by
  unfold cntO zoneM
  rw [List.take_add_one, List.countP_append, show ((q : Int)).toNat = q by omega, List.getD_eq_getElem?_getD, List.getElem?_eq_getElem h]
  simp [List.countP_cons]
theorem cntO_all (m : Dev) : cntO m m.zs.length = opened m := by
  unfold cntO opened
  rw [List.take_length]
section
variable {D : World → Nat → (Nat → Prop) → Dev → Prop}
set_option maxRecDepth 20000 in
set_option maxHeartbeats 32000000 in
theorem zoneOpens_walk (M : ZoneOK D) (W : World) (gz gs go : Int) (wz : wf64 gz) (ws : wf64 gs) (wo : wf64 go) (a : Option Addr) (cap : Nat) (l : List Op7) (hc : l.length ≤ cap) (hm : cap ≤ maxLen) (rd : Op7s W a l) :
    Calls Try.prog 4 #[.agg #[.int .i64 gz, .int .i64 gs, .int .i64 go], .slice a l.length cap] W fun e w' => e = .returned (.bool true) ∧ Below W.heap.size W w' := by
  have HM := Lib.hid M
  have f0 := (Fr.refl No W).alloc (.cells #[.int .i64 gz, .int .i64 gs, .int .i64 go] 23)
  have A0 := At.new W 23 #[.int .i64 gz, .int .i64 gs, .int .i64 go]
  obtain ⟨W1, hW1⟩ : ∃ x, W.alloc (.cells #[.int .i64 gz, .int .i64 gs, .int .i64 go] 23) = x := ⟨_, rfl⟩
  rw [hW1] at f0 A0
  have HF0 := Lib.hid f0
  have HA0 := Lib.hid A0
  have g0 := A0.cell 0
  have g1 := A0.cell 1
  have g2 := A0.cell 2
  simp at g0 g1 g2
  have HRD := Lib.hid (rd.keep f0)
  have HNEW := Lib.hid (newZ M gz gs go W1 wz ws wo W1 (Fr.refl _ _))
  have HCK : Hid (∀ w, Calls Try.prog 9 #[.agg #[.int .i64 gz, .int .i64 gs, .int .i64 go]] w (TellZ (.bool (rightG gz gs go)) w)) := Lib.hid fun w => M.check gz gs go w wz ws wo
  have HSM : Hid (∀ w, Fr No W w → Calls Try.prog 8 #[.slice a l.length cap, .int .i64 100] w fun e w' => e = .returned (.bool (small7 l 100)) ∧ Fr No w w') := Lib.hid fun w f => small_c a cap l 100 w hc hm (rd.keep f)
  have fin : ∀ w' : World, Fr No W w' → Below W.heap.size W w' := fun w' f => f.below (Nat.le_refl _) (fun _ h => h.elim)
  have FIN := Lib.hid fin
  unfold maxLen at hm
  obtain ⟨N, hN⟩ : ∃ N, l.length = N := ⟨_, rfl⟩
  rw [hN] at hc HSM
  rw [hN]
  have HN := Lib.hid hN
  have HSY := Lib.hid (fun h => small7_yes (l := l) (most := 100) h)
  clear fin rd wz ws wo hN f0 A0
  go_enter Try.func4, Try.ntmps4
  go_wp2_with fail
  refine HNEW.out.mono ?_
  rintro e w1 ⟨f1, ⟨hr, rfl⟩ | ⟨hr, d, F1, rfl, h1, _⟩⟩
  · rw [hr] at HCK
    have HF1 := Lib.hid f1
    have c0 := HA0.out.keep f1 (fun h => h)
    have g0 := c0.cell 0
    have g1 := c0.cell 1
    have g2 := c0.cell 2
    simp at g0 g1 g2
    have he : ∀ w : World, (binOp .eql 25 (.pointer none) (.pointer none)).run Try.prog w = .ok (.bool true) w := fun _ => rfl
    have he2 : ∀ w : World, (binOp .neq 25 (.pointer none) (.pointer none)).run Try.prog w = .ok (.bool false) w := fun _ => rfl
    clear f1 c0 hr HNEW HSM
    go_wp2_with fail
    refine (HCK.out _).mono ?_
    rintro e w2 ⟨rfl, f2⟩
    have HF2 := Lib.hid (HF1.out.trans f2)
    clear f2
    go_wp2_with fail
    refine (awake_c HM.out _).mono ?_
    rintro e w3 ⟨rfl, f3⟩
    have HF3 := Lib.hid (HF0.out.trans (HF2.out.trans f3))
    clear f3
    go_wp2_with fail
    go_ret
    exact ⟨rfl, FIN.out _ HF3.out⟩
  have hr6 := rightG_iff.1 hr
  rw [hr] at HCK
  obtain ⟨Z, rfl⟩ : ∃ z : Nat, gz = (z : Int) := ⟨gz.toNat, by omega⟩
  obtain ⟨S, rfl⟩ : ∃ z : Nat, gs = (z : Int) := ⟨gs.toNat, by omega⟩
  obtain ⟨O, rfl⟩ : ∃ z : Nat, go = (z : Int) := ⟨go.toNat, by omega⟩
  have HG : Hid (GeoI (newM (Z : Int) (S : Int) (O : Int)) Z S O) := Lib.hid ⟨by simp [newM], by simp [newM], by simp [newM]⟩
  have he : ∀ w : World, (binOp .eql 25 (.pointer (some ⟨d, 0, none⟩)) (.pointer none)).run Try.prog w = .ok (.bool false) w := fun _ => rfl
  have he2 : ∀ w : World, (binOp .neq 25 (.pointer (some ⟨d, 0, none⟩)) (.pointer none)).run Try.prog w = .ok (.bool true) w := fun _ => rfl
  have H1 := Lib.hid h1
  have HS1 := Lib.hid (HSM.out w1 (HF0.out.trans h1.fr))
  clear h1 HNEW HSM f1 hr
  go_wp2_with fail
  refine HS1.out.mono ?_
  rintro e w2 ⟨rfl, f2⟩
  have H2 := Lib.hid (H1.out.keep HM.out f2)
  clear f2 HS1 H1 g0 g1 g2
  have c0 := HA0.out.keep H2.out.fr (fun h => h)
  have g0 := c0.cell 0
  have g1 := c0.cell 1
  have g2 := c0.cell 2
  simp at g0 g1 g2
  clear c0
  cases hsm : small7 l 100 with
  | false =>
    clear hsm
    go_wp2_with fail
    refine (HCK.out _).mono ?_
    rintro e w3 ⟨rfl, f3⟩
    have HF3 := Lib.hid (H2.out.fr.trans f3)
    clear f3
    go_wp2_with fail
    refine (awake_c HM.out _).mono ?_
    rintro e w4 ⟨rfl, f4⟩
    have HF4 := Lib.hid (HF0.out.trans (HF3.out.trans f4))
    clear f4
    go_wp2_with fail
    go_ret
    exact ⟨rfl, FIN.out _ HF4.out⟩
  | true =>
    have HSI := Lib.hid (HSY.out hsm)
    have hN100 : N ≤ 100 := by
      have := HSI.out.1
      rw [HN.out] at this
      omega
    clear hsm HSY HCK g0 g1 g2 hr6
    go_wp2_with fail
    go_loopw [33] (fun i wr => ∃ (j : Nat) (F : Nat → Prop) (m : Dev), i = .int .i64 j ∧ j ≤ N ∧ OwnZ D W1 wr d F m ∧ GeoI m Z S O ∧ m.done ≤ j) (fun i _ => N - (intOf i).toNat)
    case atStart => exact ⟨0, F1, _, rfl, Nat.zero_le _, H2.out, HG.out, Nat.le_refl _⟩
    case round =>
      clear H2 HG
      obtain ⟨j, F, m, rfl, hj, hown, hgeo, hdone⟩ := hrel
      have HO := Lib.hid hown
      have HGE := Lib.hid hgeo
      clear hown hgeo
      by_cases h1 : j < N
      · have d1 : decide ((j : Int) < (N : Int)) = true := by rw [decide_eq_true_eq]; omega
        obtain ⟨b, o, rfl, hx⟩ := HRD.out (by rw [HN.out]; omega)
        obtain ⟨x, hx0⟩ : ∃ x, l[j]? = some x := ⟨_, List.getElem?_eq_getElem (by rw [HN.out]; exact h1)⟩
        have hxj := (hx j x hx0).keep HO.out.fr
        have hsz := HSI.out.2 j x hx0
        have HXJ := Lib.hid (hx j x hx0)
        have q0 := hxj.c0
        have q1 := hxj.c1
        have q2 := hxj.c2
        have q3 := hxj.c3
        have q4 := hxj.c4
        have q5 := hxj.c5
        clear hx hx0 hxj
        obtain ⟨xk, xz, xt, xn, xda, xdc, xd, xka, xkc, xks⟩ := x
        simp only at q0 q1 q2 q3 q4 q5 hsz
        have HSZ := Lib.hid hsz
        obtain ⟨dn, hdn⟩ : ∃ m, xd.length = m := ⟨_, rfl⟩
        obtain ⟨kn, hkn⟩ : ∃ m, xks.length = m := ⟨_, rfl⟩
        rw [hdn] at q4
        rw [hkn] at q5
        have HDN := Lib.hid hdn
        have HKN := Lib.hid hkn
        have HDL : Hid (dn ≤ xdc ∧ xdc ≤ maxLen ∧ Rd W1 xda xd) := Lib.hid ⟨by rw [← hdn]; exact HXJ.out.dl, HXJ.out.dm, HXJ.out.dr⟩
        have HKL : Hid (kn ≤ xkc ∧ xkc ≤ maxLen ∧ Ints W1 xka xks) := Lib.hid ⟨by rw [← hkn]; exact HXJ.out.kl, HXJ.out.km, HXJ.out.kr⟩
        have HWF : Hid (wf64 xz ∧ wf64 xt ∧ wf64 xn) := Lib.hid ⟨HXJ.out.wz, HXJ.out.wt, HXJ.out.wn⟩
        clear hdn hkn hsz HXJ
        have A1 := At.new wr 33 #[.int .i64 xk, .int .i64 xz, .int .i64 xt, .int .i64 xn, .slice xda dn xdc, .slice xka kn xkc]
        have f1 := (Fr.refl No wr).alloc (.cells #[.int .i64 xk, .int .i64 xz, .int .i64 xt, .int .i64 xn, .slice xda dn xdc, .slice xka kn xkc] 33)
        have hO1 := HO.out.keep HM.out f1
        have HNF : Hid (¬ F wr.heap.size) := Lib.hid (HO.out.low HM.out _ (Nat.le_refl _))
        obtain ⟨wv, hwv⟩ : ∃ x, wr.alloc (.cells #[.int .i64 xk, .int .i64 xz, .int .i64 xt, .int .i64 xn, .slice xda dn xdc, .slice xka kn xkc] 33) = x := ⟨_, rfl⟩
        rw [hwv] at A1 hO1 f1
        have HA1 := Lib.hid A1
        have HO1 := Lib.hid hO1
        have hg1 : wr.heap.size < wv.heap.size := A1.lt
        have z1 : wv.drew.cell? ⟨wr.heap.size, 1, none⟩ = some (.int .i64 xz) := A1.cell 1
        have HOD := Lib.hid (hO1.keep HM.out (Fr.refl No wv).drew)
        have HAD : Hid (At wv.drew wr.heap.size 33 #[.int .i64 xk, .int .i64 xz, .int .i64 xt, .int .i64 xn, .slice xda dn xdc, .slice xka kn xkc]) := Lib.hid A1
        have HSTA : Hid (∀ w, OwnZ D W1 w d F m → Calls Try.prog 21 #[.pointer (some ⟨d, 0, none⟩), .int .i64 xz] w (ToldZ D W1 w d F m (.int .i64 (stateM m xz)))) := Lib.hid fun w h => h.state HM.out HWF.out.1
        have HPTR : Hid (∀ w, OwnZ D W1 w d F m → Calls Try.prog 12 #[.pointer (some ⟨d, 0, none⟩), .int .i64 xz] w (ToldZ D W1 w d F m (.int .i64 (ptrM m xz)))) := Lib.hid fun w h => h.pointer HM.out HWF.out.1
        obtain ⟨ST, hst⟩ : ∃ x, stateM m xz = x := ⟨_, rfl⟩
        obtain ⟨PT, hpt⟩ : ∃ x, ptrM m xz = x := ⟨_, rfl⟩
        rw [hst] at HSTA
        rw [hpt] at HPTR
        have HST := Lib.hid hst
        have HPT := Lib.hid hpt
        have hd6 : m.done < 1000000 := by omega
        clear A1 f1 hO1 HO hst hpt
        go_wp2_with fail
        try rw [hwv]
        refine wp_region_held_drew (S := fun w' => w'.cell? ⟨wr.heap.size, 1, none⟩ = some (.int .i64 xz)) (by kernel_rfl) z1 (fun hHeld => ?_)
        refine take_drop (i := 0) (v := ?v0_1) rfl (by kernel_rfl) (by kernel_rfl) (by kernel_rfl) (fun _ _ _ h => h) (Or.inl ⟨by rfl, ?h0_1⟩) hHeld ?r0_1
        case h0_1 => (intro wS hSw; go_simp; all_goals (with_reducible rfl))
        simp only [Act.put, List.setIfInBounds_toArray, List.set_cons_zero, List.set_cons_succ]
        refine take_drop (i := 1) (v := ?v1_1) rfl (by kernel_rfl) (by kernel_rfl) (by kernel_rfl) (fun _ _ _ h => h) (Or.inl ⟨by rfl, ?h1_1⟩) hHeld ?r1_1
        case h1_1 => (intro wS hSw; go_simp; all_goals (with_reducible rfl))
        simp only [Act.put, List.setIfInBounds_toArray, List.set_cons_zero, List.set_cons_succ]
        refine take_drop (i := 2) (v := ?v2_1) rfl (by kernel_rfl) (by kernel_rfl) (by kernel_rfl) (fun _ _ _ h => h) (Or.inl ⟨by rfl, ?h2_1⟩) hHeld ?r2_1
        case h2_1 => (intro wS hSw; go_simp; all_goals (with_reducible rfl))
        simp only [Act.put, List.setIfInBounds_toArray, List.set_cons_zero, List.set_cons_succ]
        refine take_drop (i := 4) (v := ?v4_1) rfl (by kernel_rfl) (by kernel_rfl) (by kernel_rfl) (fun _ _ _ h => h) (Or.inl ⟨by rfl, ?h4_1⟩) hHeld ?r4_1
        case h4_1 => (intro wS hSw; go_simp; all_goals (with_reducible rfl))
        simp only [Act.put, List.setIfInBounds_toArray, List.set_cons_zero, List.set_cons_succ]
        refine take_drop (i := 5) (v := ?v5_1) rfl (by kernel_rfl) (by kernel_rfl) (by kernel_rfl) (fun _ _ _ h => h) (Or.inl ⟨by rfl, ?h5_1⟩) hHeld ?r5_1
        case h5_1 => (intro wS hSw; go_simp; all_goals (with_reducible rfl))
        simp only [Act.put, List.setIfInBounds_toArray, List.set_cons_zero, List.set_cons_succ]
        refine take_drop (i := 6) (v := ?v6_1) rfl (by kernel_rfl) (by kernel_rfl) (by kernel_rfl) (fun _ _ _ h => h) (Or.inl ⟨by rfl, ?h6_1⟩) hHeld ?r6_1
        case h6_1 => (intro wS hSw; go_simp; all_goals (with_reducible rfl))
        simp only [Act.put, List.setIfInBounds_toArray, List.set_cons_zero, List.set_cons_succ]
        refine wpAnyH_ready (rs := [3]) (by kernel_rfl) (by simp) ?_
        refine do_drop (i := 3) rfl (fun K hK => ?_) AllReadyH.nil
        go_simp
        refine (HSTA.out _ HOD.out).mono ?_
        rintro e w5 ⟨rfl, hO5, f5⟩
        have z2 := f5.cell z1 (fun h => h)
        have HO5 := Lib.hid hO5
        have HA5 := Lib.hid (HAD.out.keep f5 (fun h => h))
        clear hO5 f5
        refine hK.out _ _ z2 ?_
        clear hK K
        try simp only [Act.put, List.setIfInBounds_toArray, List.set_cons_zero, List.set_cons_succ]
        refine wpAnyH_ready (rs := [7]) (by kernel_rfl) (by simp) ?_
        refine do_drop (i := 7) rfl (fun K hK => ?_) AllReadyH.nil
        go_simp
        refine (HPTR.out _ HO5.out).mono ?_
        rintro e w6 ⟨rfl, hO6, f6⟩
        have z3 := f6.cell z2 (fun h => h)
        have HO6 := Lib.hid hO6
        have HA6 := Lib.hid (HA5.out.keep f6 (fun h => h))
        clear hO6 f6
        refine hK.out _ _ z3 ?_
        clear hK K
        try simp only [Act.put, List.setIfInBounds_toArray, List.set_cons_zero, List.set_cons_succ]
        refine take_drop (i := 8) (v := ?v8_1) rfl (by kernel_rfl) (by kernel_rfl) (by kernel_rfl) (fun _ _ _ h => h) (Or.inl ⟨by rfl, ?h8_1⟩) z3 ?r8_1
        case h8_1 => (intro wS hSw; go_simp; all_goals (with_reducible rfl))
        simp only [Act.put, List.setIfInBounds_toArray, List.set_cons_zero, List.set_cons_succ]
        refine take_drop (i := 9) (v := ?v9_1) rfl (by kernel_rfl) (by kernel_rfl) (by kernel_rfl) (fun _ _ _ h => h) (Or.inl ⟨by rfl, ?h9_1⟩) z3 ?r9_1
        case h9_1 => (intro wS hSw; go_simp; all_goals (with_reducible rfl))
        simp only [Act.put, List.setIfInBounds_toArray, List.set_cons_zero, List.set_cons_succ]
        refine wpAnyH_done (by kernel_rfl) ?_ _
        clear hHeld z1 z2 z3 HO5 HA5 HOD HAD HO1 HA1 hwv
        have v0 := HA6.out.cell 0
        have v1 := HA6.out.cell 1
        have v3 := HA6.out.cell 3
        have v4 := HA6.out.cell 4
        have v5 := HA6.out.cell 5
        simp at v0 v1 v3 v4 v5
        clear q0 q1 q2 q3 q4 q5
        go_upto_block 2 with fail
        go_cut [33] from 33 to 153 (fun s33 w' => s33 = .int .i64 (j : Int) ∧ ∃ (F6 : Nat → Prop) (m6 : Dev), OwnZ D W1 w' d F6 m6 ∧ GeoI m6 Z S O ∧ m6.done ≤ j + 1)
        case first =>
          by_cases k1 : xk = 1
          · subst k1
            have HC7 := Lib.hid ((HO6.out.append HM.out hd6 HWF.out.1 (by have := HSZ.out.1; omega) (by rw [HDN.out]; exact HDL.out.1) HDL.out.2.1 HDL.out.2.2))
            have hd7 : (appM m xz xd).done ≤ j + 1 := Nat.le_trans ((step_app m xz xd).d) (by omega)
            have HG7 := Lib.hid (geo_app HGE.out xz xd)
            rw [HDN.out] at HC7
            go_wp2_with fail
            refine HC7.out.mono ?_
            rintro e w7 ⟨rfl, F7, hO7, hF7, f7⟩
            have HO7 := Lib.hid hO7
            clear hO7 HC7
            by_cases hs2 : ST = 2
            · subst hs2
              obtain ⟨e1, e2⟩ := full_app xd HST.out
              have y1 := f7.cell v1 HNF.out
              have HP7 := Lib.hid (HO7.out.pointer HM.out HWF.out.1)
              have HPE : Hid (ptrM (appM m xz xd) xz = PT) := Lib.hid (by rw [e2]; exact HPT.out)
              rw [HPE.out] at HP7
              have dz : (PT == PT) = true := by simp
              clear hF7 f7 e2
              generalize cmdR m (appErr m xz xd) = E at *
              go_wp2_with fail
              refine HP7.out.mono ?_
              rintro e w8 ⟨rfl, hO8, _⟩
              have HO8 := Lib.hid hO8
              clear hO8
              go_wp2_with fail
              go_meet
              exact ⟨rfl, F7, _, HO8.out, HG7.out, hd7⟩
            · have dz : (ST == 2) = false := by rw [beq_eq_false_iff_ne]; exact hs2
              clear hF7 f7 hs2
              generalize cmdR m (appErr m xz xd) = E at *
              go_wp2_with fail
              go_meet
              exact ⟨rfl, F7, _, HO7.out, HG7.out, hd7⟩
          by_cases k3 : xk = 3
          · subst k3
            have HC7 := Lib.hid (HO6.out.reset HM.out hd6 HWF.out.1)
            have hd7 : (resM m xz).done ≤ j + 1 := Nat.le_trans ((step_res m xz).d) (by omega)
            have HG7 := Lib.hid (geo_res HGE.out xz)
            obtain ⟨m7, hm7⟩ : ∃ x, resM m xz = x := ⟨_, rfl⟩
            rw [hm7] at HC7 hd7 HG7
            clear hm7
            obtain ⟨E, hE⟩ : ∃ x, cmdR m (resErr m xz) = x := ⟨_, rfl⟩
            rw [hE] at HC7
            clear hE
            go_wp2_with fail
            refine HC7.out.mono ?_
            rintro e w7 ⟨rfl, F7, hO7, hF7, f7⟩
            have HO7 := Lib.hid hO7
            clear hO7 HC7
            clear hF7 f7
            go_wp2_with fail
            go_meet
            exact ⟨rfl, F7, m7, HO7.out, HG7.out, hd7⟩
          by_cases k4 : xk = 4
          · subst k4
            have HC7 := Lib.hid (HO6.out.finish HM.out hd6 HWF.out.1)
            have hd7 : (finM m xz).done ≤ j + 1 := Nat.le_trans ((step_fin m xz).d) (by omega)
            have HG7 := Lib.hid (geo_fin HGE.out xz)
            obtain ⟨m7, hm7⟩ : ∃ x, finM m xz = x := ⟨_, rfl⟩
            rw [hm7] at HC7 hd7 HG7
            clear hm7
            obtain ⟨E, hE⟩ : ∃ x, cmdR m (finErr m xz) = x := ⟨_, rfl⟩
            rw [hE] at HC7
            clear hE
            go_wp2_with fail
            refine HC7.out.mono ?_
            rintro e w7 ⟨rfl, F7, hO7, hF7, f7⟩
            have HO7 := Lib.hid hO7
            clear hO7 HC7
            clear hF7 f7
            go_wp2_with fail
            go_meet
            exact ⟨rfl, F7, m7, HO7.out, HG7.out, hd7⟩
          by_cases k5 : xk = 5
          · subst k5
            have HC7 := Lib.hid (HO6.out.flush HM.out hd6)
            have hd7 : (fluM m).done ≤ j + 1 := Nat.le_trans ((step_flu m).d) (by omega)
            have HG7 := Lib.hid (geo_flu HGE.out)
            obtain ⟨m7, hm7⟩ : ∃ x, fluM m = x := ⟨_, rfl⟩
            rw [hm7] at HC7 hd7 HG7
            clear hm7
            obtain ⟨E, hE⟩ : ∃ x, cmdR m (fluErr m) = x := ⟨_, rfl⟩
            rw [hE] at HC7
            clear hE
            go_wp2_with fail
            refine HC7.out.mono ?_
            rintro e w7 ⟨rfl, F7, hO7, hF7, f7⟩
            have HO7 := Lib.hid hO7
            clear hO7 HC7
            clear hF7 f7
            go_wp2_with fail
            go_meet
            exact ⟨rfl, F7, m7, HO7.out, HG7.out, hd7⟩
          by_cases k6 : xk = 6
          · subst k6
            have HC7 := Lib.hid (HO6.out.arm HM.out HWF.out.2.2)
            have hd7 : (armM m xn).done ≤ j + 1 := Nat.le_trans (Nat.le_succ m.done) (by omega)
            have HG7 := Lib.hid (geo_arm HGE.out xn)
            obtain ⟨m7, hm7⟩ : ∃ x, armM m xn = x := ⟨_, rfl⟩
            rw [hm7] at HC7 hd7 HG7
            clear hm7
            go_wp2_with fail
            refine HC7.out.mono ?_
            rintro e w7 ⟨rfl, F7, hO7, hF7, f7⟩
            have HO7 := Lib.hid hO7
            clear hO7 HC7
            clear hF7 f7
            go_wp2_with fail
            go_meet
            exact ⟨rfl, F7, m7, HO7.out, HG7.out, hd7⟩
          by_cases k7 : xk = 7
          · subst k7
            have HC7 := Lib.hid (HO6.out.crash HM.out (by have := HSZ.out.2; omega) (by rw [HKN.out]; exact HKL.out.1) HKL.out.2.1 HKL.out.2.2)
            have hd7 : (crashM m xks).done ≤ j + 1 := Nat.le_trans (Nat.le_succ m.done) (by omega)
            have HG7 := Lib.hid (geo_crash HGE.out xks)
            obtain ⟨m7, hm7⟩ : ∃ x, crashM m xks = x := ⟨_, rfl⟩
            rw [hm7] at HC7 hd7 HG7
            clear hm7
            rw [HKN.out] at HC7
            go_wp2_with fail
            refine HC7.out.mono ?_
            rintro e w7 ⟨rfl, F7, hO7, hF7, f7⟩
            have HO7 := Lib.hid hO7
            clear hO7 HC7
            clear hF7 f7
            go_wp2_with fail
            go_meet
            exact ⟨rfl, F7, m7, HO7.out, HG7.out, hd7⟩
          have b1 : (xk == 1) = false := by rw [beq_eq_false_iff_ne]; exact k1
          have b3 : (xk == 3) = false := by rw [beq_eq_false_iff_ne]; exact k3
          have b4 : (xk == 4) = false := by rw [beq_eq_false_iff_ne]; exact k4
          have b5 : (xk == 5) = false := by rw [beq_eq_false_iff_ne]; exact k5
          have b6 : (xk == 6) = false := by rw [beq_eq_false_iff_ne]; exact k6
          have b7 : (xk == 7) = false := by rw [beq_eq_false_iff_ne]; exact k7
          clear k1 k3 k4 k5 k6 k7
          go_wp2_with fail
          go_meet
          exact ⟨rfl, F, m, HO6.out, HGE.out, by omega⟩
        case rest =>
          obtain ⟨rfl, F7, m7, hO7, hG7, hd7⟩ := hcut
          have HO7 := Lib.hid hO7
          have HG7 := Lib.hid hG7
          have c7 := HA0.out.keep hO7.fr (fun h => h)
          have g0 := c7.cell 0
          have g1 := c7.cell 1
          have g2 := c7.cell 2
          simp at g0 g1 g2
          clear hO7 hG7 c7 v0 v1 v3 v4 v5 HSTA HPTR
          have hZ64 : Z ≤ 64 := by
            have := HO7.out.wf.n64
            rw [HG7.out.z] at this
            exact this
          go_wp2_with fail
          clear g0 g1 g2
          go_loopw [11, 99] (fun op i wr2 => ∃ q : Nat, i = .int .i64 q ∧ op = .int .i64 (cntO m7 q : Int) ∧ q ≤ Z ∧ OwnZ D W1 wr2 d F7 m7) (fun _ i _ => Z - (intOf i).toNat)
          case atStart => exact ⟨0, rfl, rfl, Nat.zero_le _, HO7.out⟩
          case round =>
            obtain ⟨q, rfl, rfl, hq, hown⟩ := hrel
            have HOR := Lib.hid hown
            clear hown
            have cle := cntO_le m7 q
            by_cases h2 : q < Z
            · have d2 : decide ((q : Int) < (Z : Int)) = true := by rw [decide_eq_true_eq]; omega
              have hqz : hasZ m7 (q : Int) = true := hasZ_iff.2 ⟨by omega, by rw [HG7.out.z]; omega⟩
              have HCS := Lib.hid (cntO_succ m7 q (by rw [HG7.out.z]; exact h2))
              have hzk := zoneM_ok HOR.out.wf (q : Int)
              have wq : wf64 (q : Int) := wf_small (by omega) (by omega)
              have HSTA := Lib.hid (HOR.out.state HM.out wq)
              have HPTR : Hid (∀ w, OwnZ D W1 w d F7 m7 → Calls Try.prog 12 #[.pointer (some ⟨d, 0, none⟩), .int .i64 (q : Int)] w (ToldZ D W1 w d F7 m7 (.int .i64 (ptrM m7 (q : Int))))) := Lib.hid fun w h => h.pointer HM.out wq
              have HFLD : Hid (∀ w, OwnZ D W1 w d F7 m7 → Calls Try.prog 20 #[.pointer (some ⟨d, 0, none⟩), .int .i64 (q : Int)] w (ToldZ D W1 w d F7 m7 (.int .i64 (fldM m7 (q : Int))))) := Lib.hid fun w h => h.flushed HM.out wq
              unfold stateM at HSTA
              unfold ptrM at HPTR
              unfold fldM at HFLD
              rw [if_pos hqz] at HSTA HPTR HFLD
              obtain ⟨hk1, hk2, hk3, hk4⟩ := hzk
              rw [HG7.out.s] at hk2
              obtain ⟨BL, hBL⟩ : ∃ x, (zoneM m7 (q : Int)).b.length = x := ⟨_, rfl⟩
              obtain ⟨FL, hFL⟩ : ∃ x, (zoneM m7 (q : Int)).f = x := ⟨_, rfl⟩
              obtain ⟨SN, hSN⟩ : ∃ x, (zoneM m7 (q : Int)).s = x := ⟨_, rfl⟩
              have hk5 : SN = 0 → BL = 0 := fun h => by
                rw [← hBL, hk4 (by rw [hSN]; exact h)]
                rfl
              rw [hBL] at HPTR hk1 hk2
              rw [hFL] at HFLD hk1
              rw [hSN] at HSTA hk3 HCS
              clear hBL hFL hSN hk4 hqz wq
              go_wp2_with fail
              refine HSTA.out.mono ?_
              rintro e w2 ⟨rfl, hO2, _⟩
              have c1 : w2.drew.cell? ⟨W.heap.size, 1, none⟩ = some (.int .i64 (S : Int)) := (HA0.out.keep hO2.fr (fun h => h)).cell 1
              have HOD := Lib.hid (hO2.keep HM.out (Fr.refl No w2).drew)
              clear hO2 HSTA
              have e1 : decide ((SN : Int) < 0) = false := by rw [decide_eq_false_iff_not]; omega
              have e2 : decide ((2 : Int) < (SN : Int)) = false := by rw [decide_eq_false_iff_not]; omega
              have e3 : decide ((S : Int) < (BL : Int)) = false := by rw [decide_eq_false_iff_not]; omega
              have e4 : decide ((BL : Int) < (FL : Int)) = false := by rw [decide_eq_false_iff_not]; omega
              have e7 : decide (S < BL) = false := by rw [decide_eq_false_iff_not]; omega
              have e8 : decide (BL < FL) = false := by rw [decide_eq_false_iff_not]; omega
              by_cases hs0 : SN = 0
              · subst hs0
                obtain rfl := hk5 rfl
                obtain rfl : FL = 0 := by omega
                have HC0 : Hid (cntO m7 (q + 1) = cntO m7 q) := Lib.hid (by rw [HCS.out]; rfl)
                clear hk1 hk2 hk3 hk5 HCS
                go_wp2_with fail
                refine wp_region_held_drew (S := fun w' => w'.cell? ⟨W.heap.size, 1, none⟩ = some (.int .i64 (S : Int))) (by kernel_rfl) c1 (fun hHeld => ?_)
                refine take_drop (i := 0) (v := ?v0_2) rfl (by kernel_rfl) (by kernel_rfl) (by kernel_rfl) (fun _ _ _ h => h) (Or.inl ⟨by rfl, ?h0_2⟩) hHeld ?r0_2
                case h0_2 => (intro wS hSw; go_simp; all_goals (with_reducible rfl))
                simp only [Act.put, List.setIfInBounds_toArray, List.set_cons_zero, List.set_cons_succ]
                refine take_drop (i := 1) (v := ?v1_2) rfl (by kernel_rfl) (by kernel_rfl) (by kernel_rfl) (fun _ _ _ h => h) (Or.inl ⟨by rfl, ?h1_2⟩) hHeld ?r1_2
                case h1_2 => (intro wS hSw; go_simp; all_goals (with_reducible rfl))
                simp only [Act.put, List.setIfInBounds_toArray, List.set_cons_zero, List.set_cons_succ]
                refine take_drop (i := 2) (v := ?v2_2) rfl (by kernel_rfl) (by kernel_rfl) (by kernel_rfl) (fun _ _ _ h => h) (Or.inl ⟨by rfl, ?h2_2⟩) hHeld ?r2_2
                case h2_2 => (intro wS hSw; go_simp; all_goals (with_reducible rfl))
                simp only [Act.put, List.setIfInBounds_toArray, List.set_cons_zero, List.set_cons_succ]
                refine take_drop (i := 3) (v := ?v3_2) rfl (by kernel_rfl) (by kernel_rfl) (by kernel_rfl) (fun _ _ _ h => h) (Or.inl ⟨by rfl, ?h3_2⟩) hHeld ?r3_2
                case h3_2 => (intro wS hSw; go_simp; all_goals (with_reducible rfl))
                simp only [Act.put, List.setIfInBounds_toArray, List.set_cons_zero, List.set_cons_succ]
                refine take_drop (i := 4) (v := ?v4_2) rfl (by kernel_rfl) (by kernel_rfl) (by kernel_rfl) (fun _ _ _ h => h) (Or.inl ⟨by rfl, ?h4_2⟩) hHeld ?r4_2
                case h4_2 => (intro wS hSw; go_simp; all_goals (with_reducible rfl))
                simp only [Act.put, List.setIfInBounds_toArray, List.set_cons_zero, List.set_cons_succ]
                refine take_drop (i := 5) (v := ?v5_2) rfl (by kernel_rfl) (by kernel_rfl) (by kernel_rfl) (fun _ _ _ h => h) (Or.inl ⟨by rfl, ?h5_2⟩) hHeld ?r5_2
                case h5_2 => (intro wS hSw; go_simp; all_goals (with_reducible rfl))
                simp only [Act.put, List.setIfInBounds_toArray, List.set_cons_zero, List.set_cons_succ]
                refine take_drop (i := 6) (v := ?v6_2) rfl (by kernel_rfl) (by kernel_rfl) (by kernel_rfl) (fun _ _ _ h => h) (Or.inl ⟨by rfl, ?h6_2⟩) hHeld ?r6_2
                case h6_2 => (intro wS hSw; go_simp; all_goals (with_reducible rfl))
                simp only [Act.put, List.setIfInBounds_toArray, List.set_cons_zero, List.set_cons_succ]
                refine take_drop (i := 7) (v := ?v7_2) rfl (by kernel_rfl) (by kernel_rfl) (by kernel_rfl) (fun _ _ _ h => h) (Or.inl ⟨by rfl, ?h7_2⟩) hHeld ?r7_2
                case h7_2 => (intro wS hSw; go_simp; all_goals (with_reducible rfl))
                simp only [Act.put, List.setIfInBounds_toArray, List.set_cons_zero, List.set_cons_succ]
                refine take_drop (i := 8) (v := ?v8_2) rfl (by kernel_rfl) (by kernel_rfl) (by kernel_rfl) (fun _ _ _ h => h) (Or.inl ⟨by rfl, ?h8_2⟩) hHeld ?r8_2
                case h8_2 => (intro wS hSw; go_simp; all_goals (with_reducible rfl))
                simp only [Act.put, List.setIfInBounds_toArray, List.set_cons_zero, List.set_cons_succ]
                refine take_drop (i := 9) (v := ?v9_2) rfl (by kernel_rfl) (by kernel_rfl) (by kernel_rfl) (fun _ _ _ h => h) (Or.inl ⟨by rfl, ?h9_2⟩) hHeld ?r9_2
                case h9_2 => (intro wS hSw; go_simp; all_goals (with_reducible rfl))
                simp only [Act.put, List.setIfInBounds_toArray, List.set_cons_zero, List.set_cons_succ]
                refine take_drop (i := 10) (v := ?v10_2) rfl (by kernel_rfl) (by kernel_rfl) (by kernel_rfl) (fun _ _ _ h => h) (Or.inl ⟨by rfl, ?h10_2⟩) hHeld ?r10_2
                case h10_2 => (intro wS hSw; go_simp; all_goals (with_reducible rfl))
                simp only [Act.put, List.setIfInBounds_toArray, List.set_cons_zero, List.set_cons_succ]
                refine take_drop (i := 11) (v := ?v11_2) rfl (by kernel_rfl) (by kernel_rfl) (by kernel_rfl) (fun _ _ _ h => h) (Or.inl ⟨by rfl, ?h11_2⟩) hHeld ?r11_2
                case h11_2 => (intro wS hSw; go_simp; all_goals (with_reducible rfl))
                simp only [Act.put, List.setIfInBounds_toArray, List.set_cons_zero, List.set_cons_succ]
                refine wpAnyH_ready (rs := [12]) (by kernel_rfl) (by simp) ?_
                refine do_drop (i := 12) rfl (fun K hK => ?_) AllReadyH.nil
                go_simp
                refine (HPTR.out _ HOD.out).mono ?_
                rintro e w3 ⟨rfl, hO3, f3⟩
                have c2 := f3.cell c1 (fun h => h)
                have HO3 := Lib.hid hO3
                clear hO3 f3
                refine hK.out _ _ c2 ?_
                clear hK K
                try simp only [Act.put, List.setIfInBounds_toArray, List.set_cons_zero, List.set_cons_succ]
                refine take_drop (i := 13) (v := ?v13_2) rfl (by kernel_rfl) (by kernel_rfl) (by kernel_rfl) (fun _ _ _ h => h) (Or.inl ⟨by rfl, ?h13_2⟩) c2 ?r13_2
                case h13_2 => (intro wS hSw; go_simp; all_goals (with_reducible rfl))
                simp only [Act.put, List.setIfInBounds_toArray, List.set_cons_zero, List.set_cons_succ]
                refine take_drop (i := 14) (v := ?v14_2) rfl (by kernel_rfl) (by kernel_rfl) (by kernel_rfl) (fun _ _ _ h => h) (Or.inl ⟨by rfl, ?h14_2⟩) c2 ?r14_2
                case h14_2 => (intro wS hSw; go_simp; all_goals (with_reducible rfl))
                simp only [Act.put, List.setIfInBounds_toArray, List.set_cons_zero, List.set_cons_succ]
                refine take_drop (i := 15) (v := ?v15_2) rfl (by kernel_rfl) (by kernel_rfl) (by kernel_rfl) (fun _ _ _ h => h) (Or.inl ⟨by rfl, ?h15_2⟩) c2 ?r15_2
                case h15_2 => (intro wS hSw; go_simp; all_goals (with_reducible rfl))
                simp only [Act.put, List.setIfInBounds_toArray, List.set_cons_zero, List.set_cons_succ]
                refine take_drop (i := 16) (v := ?v16_2) rfl (by kernel_rfl) (by kernel_rfl) (by kernel_rfl) (fun _ _ _ h => h) (Or.inl ⟨by rfl, ?h16_2⟩) c2 ?r16_2
                case h16_2 => (intro wS hSw; go_simp; all_goals (with_reducible rfl))
                simp only [Act.put, List.setIfInBounds_toArray, List.set_cons_zero, List.set_cons_succ]
                refine take_drop (i := 17) (v := ?v17_2) rfl (by kernel_rfl) (by kernel_rfl) (by kernel_rfl) (fun _ _ _ h => h) (Or.inl ⟨by rfl, ?h17_2⟩) c2 ?r17_2
                case h17_2 => (intro wS hSw; go_simp; all_goals (with_reducible rfl))
                simp only [Act.put, List.setIfInBounds_toArray, List.set_cons_zero, List.set_cons_succ]
                refine take_drop (i := 18) (v := ?v18_2) rfl (by kernel_rfl) (by kernel_rfl) (by kernel_rfl) (fun _ _ _ h => h) (Or.inl ⟨by rfl, ?h18_2⟩) c2 ?r18_2
                case h18_2 => (intro wS hSw; go_simp; all_goals (with_reducible rfl))
                simp only [Act.put, List.setIfInBounds_toArray, List.set_cons_zero, List.set_cons_succ]
                refine take_drop (i := 20) (v := ?v20_2) rfl (by kernel_rfl) (by kernel_rfl) (by kernel_rfl) (fun _ _ _ h => h) (Or.inl ⟨by rfl, ?h20_2⟩) c2 ?r20_2
                case h20_2 => (intro wS hSw; go_simp; all_goals (with_reducible rfl))
                simp only [Act.put, List.setIfInBounds_toArray, List.set_cons_zero, List.set_cons_succ]
                refine take_drop (i := 21) (v := ?v21_2) rfl (by kernel_rfl) (by kernel_rfl) (by kernel_rfl) (fun _ _ _ h => h) (Or.inl ⟨by rfl, ?h21_2⟩) c2 ?r21_2
                case h21_2 => (intro wS hSw; go_simp; all_goals (with_reducible rfl))
                simp only [Act.put, List.setIfInBounds_toArray, List.set_cons_zero, List.set_cons_succ]
                refine wpAnyH_ready (rs := [19]) (by kernel_rfl) (by simp) ?_
                refine do_drop (i := 19) rfl (fun K hK => ?_) AllReadyH.nil
                go_simp
                refine (HPTR.out _ HO3.out).mono ?_
                rintro e w4 ⟨rfl, hO4, f4⟩
                have c3 := f4.cell c2 (fun h => h)
                have HO4 := Lib.hid hO4
                clear hO4 f4
                refine hK.out _ _ c3 ?_
                clear hK K
                try simp only [Act.put, List.setIfInBounds_toArray, List.set_cons_zero, List.set_cons_succ]
                refine take_drop (i := 22) (v := ?v22_2) rfl (by kernel_rfl) (by kernel_rfl) (by kernel_rfl) (fun _ _ _ h => h) (Or.inl ⟨by rfl, ?h22_2⟩) c3 ?r22_2
                case h22_2 => (intro wS hSw; go_simp; all_goals (with_reducible rfl))
                simp only [Act.put, List.setIfInBounds_toArray, List.set_cons_zero, List.set_cons_succ]
                refine take_drop (i := 23) (v := ?v23_2) rfl (by kernel_rfl) (by kernel_rfl) (by kernel_rfl) (fun _ _ _ h => h) (Or.inl ⟨by rfl, ?h23_2⟩) c3 ?r23_2
                case h23_2 => (intro wS hSw; go_simp; all_goals (with_reducible rfl))
                simp only [Act.put, List.setIfInBounds_toArray, List.set_cons_zero, List.set_cons_succ]
                refine take_drop (i := 24) (v := ?v24_2) rfl (by kernel_rfl) (by kernel_rfl) (by kernel_rfl) (fun _ _ _ h => h) (Or.inl ⟨by rfl, ?h24_2⟩) c3 ?r24_2
                case h24_2 => (intro wS hSw; go_simp; all_goals (with_reducible rfl))
                simp only [Act.put, List.setIfInBounds_toArray, List.set_cons_zero, List.set_cons_succ]
                refine take_drop (i := 25) (v := ?v25_2) rfl (by kernel_rfl) (by kernel_rfl) (by kernel_rfl) (fun _ _ _ h => h) (Or.inl ⟨by rfl, ?h25_2⟩) c3 ?r25_2
                case h25_2 => (intro wS hSw; go_simp; all_goals (with_reducible rfl))
                simp only [Act.put, List.setIfInBounds_toArray, List.set_cons_zero, List.set_cons_succ]
                refine take_drop (i := 26) (v := ?v26_2) rfl (by kernel_rfl) (by kernel_rfl) (by kernel_rfl) (fun _ _ _ h => h) (Or.inl ⟨by rfl, ?h26_2⟩) c3 ?r26_2
                case h26_2 => (intro wS hSw; go_simp; all_goals (with_reducible rfl))
                simp only [Act.put, List.setIfInBounds_toArray, List.set_cons_zero, List.set_cons_succ]
                refine take_drop (i := 28) (v := ?v28_2) rfl (by kernel_rfl) (by kernel_rfl) (by kernel_rfl) (fun _ _ _ h => h) (Or.inl ⟨by rfl, ?h28_2⟩) c3 ?r28_2
                case h28_2 => (intro wS hSw; go_simp; all_goals (with_reducible rfl))
                simp only [Act.put, List.setIfInBounds_toArray, List.set_cons_zero, List.set_cons_succ]
                refine take_drop (i := 29) (v := ?v29_2) rfl (by kernel_rfl) (by kernel_rfl) (by kernel_rfl) (fun _ _ _ h => h) (Or.inl ⟨by rfl, ?h29_2⟩) c3 ?r29_2
                case h29_2 => (intro wS hSw; go_simp; all_goals (with_reducible rfl))
                simp only [Act.put, List.setIfInBounds_toArray, List.set_cons_zero, List.set_cons_succ]
                refine wpAnyH_ready (rs := [27]) (by kernel_rfl) (by simp) ?_
                refine do_drop (i := 27) rfl (fun K hK => ?_) AllReadyH.nil
                go_simp
                refine (HFLD.out _ HO4.out).mono ?_
                rintro e w5 ⟨rfl, hO5, f5⟩
                have c4 := f5.cell c3 (fun h => h)
                have HO5 := Lib.hid hO5
                clear hO5 f5
                refine hK.out _ _ c4 ?_
                clear hK K
                try simp only [Act.put, List.setIfInBounds_toArray, List.set_cons_zero, List.set_cons_succ]
                refine wpAnyH_ready (rs := [30]) (by kernel_rfl) (by simp) ?_
                refine do_drop (i := 30) rfl (fun K hK => ?_) AllReadyH.nil
                go_simp
                refine (HPTR.out _ HO5.out).mono ?_
                rintro e w6 ⟨rfl, hO6, f6⟩
                have c5 := f6.cell c4 (fun h => h)
                have HO6 := Lib.hid hO6
                clear hO6 f6
                refine hK.out _ _ c5 ?_
                clear hK K
                try simp only [Act.put, List.setIfInBounds_toArray, List.set_cons_zero, List.set_cons_succ]
                refine take_drop (i := 31) (v := ?v31_2) rfl (by kernel_rfl) (by kernel_rfl) (by kernel_rfl) (fun _ _ _ h => h) (Or.inl ⟨by rfl, ?h31_2⟩) c5 ?r31_2
                case h31_2 => (intro wS hSw; go_simp; all_goals (with_reducible rfl))
                simp only [Act.put, List.setIfInBounds_toArray, List.set_cons_zero, List.set_cons_succ]
                refine take_drop (i := 32) (v := ?v32_2) rfl (by kernel_rfl) (by kernel_rfl) (by kernel_rfl) (fun _ _ _ h => h) (Or.inl ⟨by rfl, ?h32_2⟩) c5 ?r32_2
                case h32_2 => (intro wS hSw; go_simp; all_goals (with_reducible rfl))
                simp only [Act.put, List.setIfInBounds_toArray, List.set_cons_zero, List.set_cons_succ]
                refine wpAnyH_done (by kernel_rfl) ?_ _
                clear hHeld c1 c2 c3 c4 c5 HOD HO4 HO5 HO3
                go_wp2_with fail
                go_roundw
                case rel => exact ⟨q + 1, by simp, by rw [HC0.out], by omega, HO6.out⟩
                case measure => simp [intOf]; omega

              have e5 : ((SN : Int) == 0) = false := by rw [beq_eq_false_iff_ne]; omega
              by_cases hs1 : SN = 1
              · subst hs1
                have HC0 : Hid (cntO m7 (q + 1) = cntO m7 q + 1) := Lib.hid (by rw [HCS.out]; rfl)
                clear hk1 hk2 hk3 hk5 hs0 HCS
                go_wp2_with fail
                refine wp_region_held_drew (S := fun w' => w'.cell? ⟨W.heap.size, 1, none⟩ = some (.int .i64 (S : Int))) (by kernel_rfl) c1 (fun hHeld => ?_)
                refine take_drop (i := 0) (v := ?v0_3) rfl (by kernel_rfl) (by kernel_rfl) (by kernel_rfl) (fun _ _ _ h => h) (Or.inl ⟨by rfl, ?h0_3⟩) hHeld ?r0_3
                case h0_3 => (intro wS hSw; go_simp; all_goals (with_reducible rfl))
                simp only [Act.put, List.setIfInBounds_toArray, List.set_cons_zero, List.set_cons_succ]
                refine take_drop (i := 1) (v := ?v1_3) rfl (by kernel_rfl) (by kernel_rfl) (by kernel_rfl) (fun _ _ _ h => h) (Or.inl ⟨by rfl, ?h1_3⟩) hHeld ?r1_3
                case h1_3 => (intro wS hSw; go_simp; all_goals (with_reducible rfl))
                simp only [Act.put, List.setIfInBounds_toArray, List.set_cons_zero, List.set_cons_succ]
                refine take_drop (i := 2) (v := ?v2_3) rfl (by kernel_rfl) (by kernel_rfl) (by kernel_rfl) (fun _ _ _ h => h) (Or.inl ⟨by rfl, ?h2_3⟩) hHeld ?r2_3
                case h2_3 => (intro wS hSw; go_simp; all_goals (with_reducible rfl))
                simp only [Act.put, List.setIfInBounds_toArray, List.set_cons_zero, List.set_cons_succ]
                refine take_drop (i := 3) (v := ?v3_3) rfl (by kernel_rfl) (by kernel_rfl) (by kernel_rfl) (fun _ _ _ h => h) (Or.inl ⟨by rfl, ?h3_3⟩) hHeld ?r3_3
                case h3_3 => (intro wS hSw; go_simp; all_goals (with_reducible rfl))
                simp only [Act.put, List.setIfInBounds_toArray, List.set_cons_zero, List.set_cons_succ]
                refine take_drop (i := 4) (v := ?v4_3) rfl (by kernel_rfl) (by kernel_rfl) (by kernel_rfl) (fun _ _ _ h => h) (Or.inl ⟨by rfl, ?h4_3⟩) hHeld ?r4_3
                case h4_3 => (intro wS hSw; go_simp; all_goals (with_reducible rfl))
                simp only [Act.put, List.setIfInBounds_toArray, List.set_cons_zero, List.set_cons_succ]
                refine take_drop (i := 5) (v := ?v5_3) rfl (by kernel_rfl) (by kernel_rfl) (by kernel_rfl) (fun _ _ _ h => h) (Or.inl ⟨by rfl, ?h5_3⟩) hHeld ?r5_3
                case h5_3 => (intro wS hSw; go_simp; all_goals (with_reducible rfl))
                simp only [Act.put, List.setIfInBounds_toArray, List.set_cons_zero, List.set_cons_succ]
                refine take_drop (i := 6) (v := ?v6_3) rfl (by kernel_rfl) (by kernel_rfl) (by kernel_rfl) (fun _ _ _ h => h) (Or.inl ⟨by rfl, ?h6_3⟩) hHeld ?r6_3
                case h6_3 => (intro wS hSw; go_simp; all_goals (with_reducible rfl))
                simp only [Act.put, List.setIfInBounds_toArray, List.set_cons_zero, List.set_cons_succ]
                refine take_drop (i := 7) (v := ?v7_3) rfl (by kernel_rfl) (by kernel_rfl) (by kernel_rfl) (fun _ _ _ h => h) (Or.inl ⟨by rfl, ?h7_3⟩) hHeld ?r7_3
                case h7_3 => (intro wS hSw; go_simp; all_goals (with_reducible rfl))
                simp only [Act.put, List.setIfInBounds_toArray, List.set_cons_zero, List.set_cons_succ]
                refine take_drop (i := 8) (v := ?v8_3) rfl (by kernel_rfl) (by kernel_rfl) (by kernel_rfl) (fun _ _ _ h => h) (Or.inl ⟨by rfl, ?h8_3⟩) hHeld ?r8_3
                case h8_3 => (intro wS hSw; go_simp; all_goals (with_reducible rfl))
                simp only [Act.put, List.setIfInBounds_toArray, List.set_cons_zero, List.set_cons_succ]
                refine take_drop (i := 9) (v := ?v9_3) rfl (by kernel_rfl) (by kernel_rfl) (by kernel_rfl) (fun _ _ _ h => h) (Or.inl ⟨by rfl, ?h9_3⟩) hHeld ?r9_3
                case h9_3 => (intro wS hSw; go_simp; all_goals (with_reducible rfl))
                simp only [Act.put, List.setIfInBounds_toArray, List.set_cons_zero, List.set_cons_succ]
                refine take_drop (i := 10) (v := undef) rfl (by kernel_rfl) (by kernel_rfl) (by kernel_rfl) (fun _ _ _ h => h) (Or.inr ⟨by rfl, rfl⟩) hHeld ?_
                simp only [Act.put, List.setIfInBounds_toArray, List.set_cons_zero, List.set_cons_succ]
                refine take_drop (i := 11) (v := undef) rfl (by kernel_rfl) (by kernel_rfl) (by kernel_rfl) (fun _ _ _ h => h) (Or.inr ⟨by rfl, rfl⟩) hHeld ?_
                simp only [Act.put, List.setIfInBounds_toArray, List.set_cons_zero, List.set_cons_succ]
                refine take_drop (i := 12) (v := undef) rfl (by kernel_rfl) (by kernel_rfl) (by kernel_rfl) (fun _ _ _ h => h) (Or.inr ⟨by rfl, rfl⟩) hHeld ?_
                simp only [Act.put, List.setIfInBounds_toArray, List.set_cons_zero, List.set_cons_succ]
                refine take_drop (i := 13) (v := undef) rfl (by kernel_rfl) (by kernel_rfl) (by kernel_rfl) (fun _ _ _ h => h) (Or.inr ⟨by rfl, rfl⟩) hHeld ?_
                simp only [Act.put, List.setIfInBounds_toArray, List.set_cons_zero, List.set_cons_succ]
                have c2 := c1
                refine take_drop (i := 14) (v := ?v14_3) rfl (by kernel_rfl) (by kernel_rfl) (by kernel_rfl) (fun _ _ _ h => h) (Or.inl ⟨by rfl, ?h14_3⟩) hHeld ?r14_3
                case h14_3 => (intro wS hSw; go_simp; all_goals (with_reducible rfl))
                simp only [Act.put, List.setIfInBounds_toArray, List.set_cons_zero, List.set_cons_succ]
                refine take_drop (i := 15) (v := ?v15_3) rfl (by kernel_rfl) (by kernel_rfl) (by kernel_rfl) (fun _ _ _ h => h) (Or.inl ⟨by rfl, ?h15_3⟩) hHeld ?r15_3
                case h15_3 => (intro wS hSw; go_simp; all_goals (with_reducible rfl))
                simp only [Act.put, List.setIfInBounds_toArray, List.set_cons_zero, List.set_cons_succ]
                refine take_drop (i := 16) (v := ?v16_3) rfl (by kernel_rfl) (by kernel_rfl) (by kernel_rfl) (fun _ _ _ h => h) (Or.inl ⟨by rfl, ?h16_3⟩) hHeld ?r16_3
                case h16_3 => (intro wS hSw; go_simp; all_goals (with_reducible rfl))
                simp only [Act.put, List.setIfInBounds_toArray, List.set_cons_zero, List.set_cons_succ]
                refine take_drop (i := 17) (v := ?v17_3) rfl (by kernel_rfl) (by kernel_rfl) (by kernel_rfl) (fun _ _ _ h => h) (Or.inl ⟨by rfl, ?h17_3⟩) hHeld ?r17_3
                case h17_3 => (intro wS hSw; go_simp; all_goals (with_reducible rfl))
                simp only [Act.put, List.setIfInBounds_toArray, List.set_cons_zero, List.set_cons_succ]
                refine take_drop (i := 18) (v := ?v18_3) rfl (by kernel_rfl) (by kernel_rfl) (by kernel_rfl) (fun _ _ _ h => h) (Or.inl ⟨by rfl, ?h18_3⟩) hHeld ?r18_3
                case h18_3 => (intro wS hSw; go_simp; all_goals (with_reducible rfl))
                simp only [Act.put, List.setIfInBounds_toArray, List.set_cons_zero, List.set_cons_succ]
                refine take_drop (i := 20) (v := ?v20_3) rfl (by kernel_rfl) (by kernel_rfl) (by kernel_rfl) (fun _ _ _ h => h) (Or.inl ⟨by rfl, ?h20_3⟩) hHeld ?r20_3
                case h20_3 => (intro wS hSw; go_simp; all_goals (with_reducible rfl))
                simp only [Act.put, List.setIfInBounds_toArray, List.set_cons_zero, List.set_cons_succ]
                refine take_drop (i := 21) (v := ?v21_3) rfl (by kernel_rfl) (by kernel_rfl) (by kernel_rfl) (fun _ _ _ h => h) (Or.inl ⟨by rfl, ?h21_3⟩) hHeld ?r21_3
                case h21_3 => (intro wS hSw; go_simp; all_goals (with_reducible rfl))
                simp only [Act.put, List.setIfInBounds_toArray, List.set_cons_zero, List.set_cons_succ]
                refine wpAnyH_ready (rs := [19]) (by kernel_rfl) (by simp) ?_
                refine do_drop (i := 19) rfl (fun K hK => ?_) AllReadyH.nil
                go_simp
                refine (HPTR.out _ HOD.out).mono ?_
                rintro e w4 ⟨rfl, hO4, f4⟩
                have c3 := f4.cell c2 (fun h => h)
                have HO4 := Lib.hid hO4
                clear hO4 f4
                refine hK.out _ _ c3 ?_
                clear hK K
                try simp only [Act.put, List.setIfInBounds_toArray, List.set_cons_zero, List.set_cons_succ]
                refine take_drop (i := 22) (v := ?v22_3) rfl (by kernel_rfl) (by kernel_rfl) (by kernel_rfl) (fun _ _ _ h => h) (Or.inl ⟨by rfl, ?h22_3⟩) c3 ?r22_3
                case h22_3 => (intro wS hSw; go_simp; all_goals (with_reducible rfl))
                simp only [Act.put, List.setIfInBounds_toArray, List.set_cons_zero, List.set_cons_succ]
                refine take_drop (i := 23) (v := ?v23_3) rfl (by kernel_rfl) (by kernel_rfl) (by kernel_rfl) (fun _ _ _ h => h) (Or.inl ⟨by rfl, ?h23_3⟩) c3 ?r23_3
                case h23_3 => (intro wS hSw; go_simp; all_goals (with_reducible rfl))
                simp only [Act.put, List.setIfInBounds_toArray, List.set_cons_zero, List.set_cons_succ]
                refine take_drop (i := 24) (v := ?v24_3) rfl (by kernel_rfl) (by kernel_rfl) (by kernel_rfl) (fun _ _ _ h => h) (Or.inl ⟨by rfl, ?h24_3⟩) c3 ?r24_3
                case h24_3 => (intro wS hSw; go_simp; all_goals (with_reducible rfl))
                simp only [Act.put, List.setIfInBounds_toArray, List.set_cons_zero, List.set_cons_succ]
                refine take_drop (i := 25) (v := ?v25_3) rfl (by kernel_rfl) (by kernel_rfl) (by kernel_rfl) (fun _ _ _ h => h) (Or.inl ⟨by rfl, ?h25_3⟩) c3 ?r25_3
                case h25_3 => (intro wS hSw; go_simp; all_goals (with_reducible rfl))
                simp only [Act.put, List.setIfInBounds_toArray, List.set_cons_zero, List.set_cons_succ]
                refine take_drop (i := 26) (v := ?v26_3) rfl (by kernel_rfl) (by kernel_rfl) (by kernel_rfl) (fun _ _ _ h => h) (Or.inl ⟨by rfl, ?h26_3⟩) c3 ?r26_3
                case h26_3 => (intro wS hSw; go_simp; all_goals (with_reducible rfl))
                simp only [Act.put, List.setIfInBounds_toArray, List.set_cons_zero, List.set_cons_succ]
                refine take_drop (i := 28) (v := ?v28_3) rfl (by kernel_rfl) (by kernel_rfl) (by kernel_rfl) (fun _ _ _ h => h) (Or.inl ⟨by rfl, ?h28_3⟩) c3 ?r28_3
                case h28_3 => (intro wS hSw; go_simp; all_goals (with_reducible rfl))
                simp only [Act.put, List.setIfInBounds_toArray, List.set_cons_zero, List.set_cons_succ]
                refine take_drop (i := 29) (v := ?v29_3) rfl (by kernel_rfl) (by kernel_rfl) (by kernel_rfl) (fun _ _ _ h => h) (Or.inl ⟨by rfl, ?h29_3⟩) c3 ?r29_3
                case h29_3 => (intro wS hSw; go_simp; all_goals (with_reducible rfl))
                simp only [Act.put, List.setIfInBounds_toArray, List.set_cons_zero, List.set_cons_succ]
                refine wpAnyH_ready (rs := [27]) (by kernel_rfl) (by simp) ?_
                refine do_drop (i := 27) rfl (fun K hK => ?_) AllReadyH.nil
                go_simp
                refine (HFLD.out _ HO4.out).mono ?_
                rintro e w5 ⟨rfl, hO5, f5⟩
                have c4 := f5.cell c3 (fun h => h)
                have HO5 := Lib.hid hO5
                clear hO5 f5
                refine hK.out _ _ c4 ?_
                clear hK K
                try simp only [Act.put, List.setIfInBounds_toArray, List.set_cons_zero, List.set_cons_succ]
                refine wpAnyH_ready (rs := [30]) (by kernel_rfl) (by simp) ?_
                refine do_drop (i := 30) rfl (fun K hK => ?_) AllReadyH.nil
                go_simp
                refine (HPTR.out _ HO5.out).mono ?_
                rintro e w6 ⟨rfl, hO6, f6⟩
                have c5 := f6.cell c4 (fun h => h)
                have HO6 := Lib.hid hO6
                clear hO6 f6
                refine hK.out _ _ c5 ?_
                clear hK K
                try simp only [Act.put, List.setIfInBounds_toArray, List.set_cons_zero, List.set_cons_succ]
                refine take_drop (i := 31) (v := ?v31_3) rfl (by kernel_rfl) (by kernel_rfl) (by kernel_rfl) (fun _ _ _ h => h) (Or.inl ⟨by rfl, ?h31_3⟩) c5 ?r31_3
                case h31_3 => (intro wS hSw; go_simp; all_goals (with_reducible rfl))
                simp only [Act.put, List.setIfInBounds_toArray, List.set_cons_zero, List.set_cons_succ]
                refine take_drop (i := 32) (v := ?v32_3) rfl (by kernel_rfl) (by kernel_rfl) (by kernel_rfl) (fun _ _ _ h => h) (Or.inl ⟨by rfl, ?h32_3⟩) c5 ?r32_3
                case h32_3 => (intro wS hSw; go_simp; all_goals (with_reducible rfl))
                simp only [Act.put, List.setIfInBounds_toArray, List.set_cons_zero, List.set_cons_succ]
                refine wpAnyH_done (by kernel_rfl) ?_ _
                clear hHeld c1 c2 c3 c4 c5 HOD HO4 HO5
                go_wp2_with fail
                go_roundw
                case rel => exact ⟨q + 1, by simp, by rw [HC0.out]; rfl, by omega, HO6.out⟩
                case measure => simp [intOf]; omega

              · have e6 : ((SN : Int) == 1) = false := by rw [beq_eq_false_iff_ne]; omega
                have HC0 : Hid (cntO m7 (q + 1) = cntO m7 q) := Lib.hid (by rw [HCS.out, if_neg (by rw [beq_iff_eq]; omega)]; rfl)
                clear hk1 hk2 hk3 hk5 hs0 hs1 HCS
                go_wp2_with fail
                refine wp_region_held_drew (S := fun w' => w'.cell? ⟨W.heap.size, 1, none⟩ = some (.int .i64 (S : Int))) (by kernel_rfl) c1 (fun hHeld => ?_)
                refine take_drop (i := 0) (v := ?v0_4) rfl (by kernel_rfl) (by kernel_rfl) (by kernel_rfl) (fun _ _ _ h => h) (Or.inl ⟨by rfl, ?h0_4⟩) hHeld ?r0_4
                case h0_4 => (intro wS hSw; go_simp; all_goals (with_reducible rfl))
                simp only [Act.put, List.setIfInBounds_toArray, List.set_cons_zero, List.set_cons_succ]
                refine take_drop (i := 1) (v := ?v1_4) rfl (by kernel_rfl) (by kernel_rfl) (by kernel_rfl) (fun _ _ _ h => h) (Or.inl ⟨by rfl, ?h1_4⟩) hHeld ?r1_4
                case h1_4 => (intro wS hSw; go_simp; all_goals (with_reducible rfl))
                simp only [Act.put, List.setIfInBounds_toArray, List.set_cons_zero, List.set_cons_succ]
                refine take_drop (i := 2) (v := ?v2_4) rfl (by kernel_rfl) (by kernel_rfl) (by kernel_rfl) (fun _ _ _ h => h) (Or.inl ⟨by rfl, ?h2_4⟩) hHeld ?r2_4
                case h2_4 => (intro wS hSw; go_simp; all_goals (with_reducible rfl))
                simp only [Act.put, List.setIfInBounds_toArray, List.set_cons_zero, List.set_cons_succ]
                refine take_drop (i := 3) (v := ?v3_4) rfl (by kernel_rfl) (by kernel_rfl) (by kernel_rfl) (fun _ _ _ h => h) (Or.inl ⟨by rfl, ?h3_4⟩) hHeld ?r3_4
                case h3_4 => (intro wS hSw; go_simp; all_goals (with_reducible rfl))
                simp only [Act.put, List.setIfInBounds_toArray, List.set_cons_zero, List.set_cons_succ]
                refine take_drop (i := 4) (v := ?v4_4) rfl (by kernel_rfl) (by kernel_rfl) (by kernel_rfl) (fun _ _ _ h => h) (Or.inl ⟨by rfl, ?h4_4⟩) hHeld ?r4_4
                case h4_4 => (intro wS hSw; go_simp; all_goals (with_reducible rfl))
                simp only [Act.put, List.setIfInBounds_toArray, List.set_cons_zero, List.set_cons_succ]
                refine take_drop (i := 5) (v := ?v5_4) rfl (by kernel_rfl) (by kernel_rfl) (by kernel_rfl) (fun _ _ _ h => h) (Or.inl ⟨by rfl, ?h5_4⟩) hHeld ?r5_4
                case h5_4 => (intro wS hSw; go_simp; all_goals (with_reducible rfl))
                simp only [Act.put, List.setIfInBounds_toArray, List.set_cons_zero, List.set_cons_succ]
                refine take_drop (i := 6) (v := ?v6_4) rfl (by kernel_rfl) (by kernel_rfl) (by kernel_rfl) (fun _ _ _ h => h) (Or.inl ⟨by rfl, ?h6_4⟩) hHeld ?r6_4
                case h6_4 => (intro wS hSw; go_simp; all_goals (with_reducible rfl))
                simp only [Act.put, List.setIfInBounds_toArray, List.set_cons_zero, List.set_cons_succ]
                refine take_drop (i := 7) (v := ?v7_4) rfl (by kernel_rfl) (by kernel_rfl) (by kernel_rfl) (fun _ _ _ h => h) (Or.inl ⟨by rfl, ?h7_4⟩) hHeld ?r7_4
                case h7_4 => (intro wS hSw; go_simp; all_goals (with_reducible rfl))
                simp only [Act.put, List.setIfInBounds_toArray, List.set_cons_zero, List.set_cons_succ]
                refine take_drop (i := 8) (v := ?v8_4) rfl (by kernel_rfl) (by kernel_rfl) (by kernel_rfl) (fun _ _ _ h => h) (Or.inl ⟨by rfl, ?h8_4⟩) hHeld ?r8_4
                case h8_4 => (intro wS hSw; go_simp; all_goals (with_reducible rfl))
                simp only [Act.put, List.setIfInBounds_toArray, List.set_cons_zero, List.set_cons_succ]
                refine take_drop (i := 9) (v := ?v9_4) rfl (by kernel_rfl) (by kernel_rfl) (by kernel_rfl) (fun _ _ _ h => h) (Or.inl ⟨by rfl, ?h9_4⟩) hHeld ?r9_4
                case h9_4 => (intro wS hSw; go_simp; all_goals (with_reducible rfl))
                simp only [Act.put, List.setIfInBounds_toArray, List.set_cons_zero, List.set_cons_succ]
                refine take_drop (i := 10) (v := undef) rfl (by kernel_rfl) (by kernel_rfl) (by kernel_rfl) (fun _ _ _ h => h) (Or.inr ⟨by rfl, rfl⟩) hHeld ?_
                simp only [Act.put, List.setIfInBounds_toArray, List.set_cons_zero, List.set_cons_succ]
                refine take_drop (i := 11) (v := undef) rfl (by kernel_rfl) (by kernel_rfl) (by kernel_rfl) (fun _ _ _ h => h) (Or.inr ⟨by rfl, rfl⟩) hHeld ?_
                simp only [Act.put, List.setIfInBounds_toArray, List.set_cons_zero, List.set_cons_succ]
                refine take_drop (i := 12) (v := undef) rfl (by kernel_rfl) (by kernel_rfl) (by kernel_rfl) (fun _ _ _ h => h) (Or.inr ⟨by rfl, rfl⟩) hHeld ?_
                simp only [Act.put, List.setIfInBounds_toArray, List.set_cons_zero, List.set_cons_succ]
                refine take_drop (i := 13) (v := undef) rfl (by kernel_rfl) (by kernel_rfl) (by kernel_rfl) (fun _ _ _ h => h) (Or.inr ⟨by rfl, rfl⟩) hHeld ?_
                simp only [Act.put, List.setIfInBounds_toArray, List.set_cons_zero, List.set_cons_succ]
                have c2 := c1
                refine take_drop (i := 14) (v := ?v14_4) rfl (by kernel_rfl) (by kernel_rfl) (by kernel_rfl) (fun _ _ _ h => h) (Or.inl ⟨by rfl, ?h14_4⟩) hHeld ?r14_4
                case h14_4 => (intro wS hSw; go_simp; all_goals (with_reducible rfl))
                simp only [Act.put, List.setIfInBounds_toArray, List.set_cons_zero, List.set_cons_succ]
                refine take_drop (i := 15) (v := ?v15_4) rfl (by kernel_rfl) (by kernel_rfl) (by kernel_rfl) (fun _ _ _ h => h) (Or.inl ⟨by rfl, ?h15_4⟩) hHeld ?r15_4
                case h15_4 => (intro wS hSw; go_simp; all_goals (with_reducible rfl))
                simp only [Act.put, List.setIfInBounds_toArray, List.set_cons_zero, List.set_cons_succ]
                refine take_drop (i := 16) (v := ?v16_4) rfl (by kernel_rfl) (by kernel_rfl) (by kernel_rfl) (fun _ _ _ h => h) (Or.inl ⟨by rfl, ?h16_4⟩) hHeld ?r16_4
                case h16_4 => (intro wS hSw; go_simp; all_goals (with_reducible rfl))
                simp only [Act.put, List.setIfInBounds_toArray, List.set_cons_zero, List.set_cons_succ]
                refine take_drop (i := 17) (v := ?v17_4) rfl (by kernel_rfl) (by kernel_rfl) (by kernel_rfl) (fun _ _ _ h => h) (Or.inl ⟨by rfl, ?h17_4⟩) hHeld ?r17_4
                case h17_4 => (intro wS hSw; go_simp; all_goals (with_reducible rfl))
                simp only [Act.put, List.setIfInBounds_toArray, List.set_cons_zero, List.set_cons_succ]
                refine take_drop (i := 18) (v := ?v18_4) rfl (by kernel_rfl) (by kernel_rfl) (by kernel_rfl) (fun _ _ _ h => h) (Or.inl ⟨by rfl, ?h18_4⟩) hHeld ?r18_4
                case h18_4 => (intro wS hSw; go_simp; all_goals (with_reducible rfl))
                simp only [Act.put, List.setIfInBounds_toArray, List.set_cons_zero, List.set_cons_succ]
                refine take_drop (i := 20) (v := ?v20_4) rfl (by kernel_rfl) (by kernel_rfl) (by kernel_rfl) (fun _ _ _ h => h) (Or.inl ⟨by rfl, ?h20_4⟩) hHeld ?r20_4
                case h20_4 => (intro wS hSw; go_simp; all_goals (with_reducible rfl))
                simp only [Act.put, List.setIfInBounds_toArray, List.set_cons_zero, List.set_cons_succ]
                refine take_drop (i := 21) (v := ?v21_4) rfl (by kernel_rfl) (by kernel_rfl) (by kernel_rfl) (fun _ _ _ h => h) (Or.inl ⟨by rfl, ?h21_4⟩) hHeld ?r21_4
                case h21_4 => (intro wS hSw; go_simp; all_goals (with_reducible rfl))
                simp only [Act.put, List.setIfInBounds_toArray, List.set_cons_zero, List.set_cons_succ]
                refine wpAnyH_ready (rs := [19]) (by kernel_rfl) (by simp) ?_
                refine do_drop (i := 19) rfl (fun K hK => ?_) AllReadyH.nil
                go_simp
                refine (HPTR.out _ HOD.out).mono ?_
                rintro e w4 ⟨rfl, hO4, f4⟩
                have c3 := f4.cell c2 (fun h => h)
                have HO4 := Lib.hid hO4
                clear hO4 f4
                refine hK.out _ _ c3 ?_
                clear hK K
                try simp only [Act.put, List.setIfInBounds_toArray, List.set_cons_zero, List.set_cons_succ]
                refine take_drop (i := 22) (v := ?v22_4) rfl (by kernel_rfl) (by kernel_rfl) (by kernel_rfl) (fun _ _ _ h => h) (Or.inl ⟨by rfl, ?h22_4⟩) c3 ?r22_4
                case h22_4 => (intro wS hSw; go_simp; all_goals (with_reducible rfl))
                simp only [Act.put, List.setIfInBounds_toArray, List.set_cons_zero, List.set_cons_succ]
                refine take_drop (i := 23) (v := ?v23_4) rfl (by kernel_rfl) (by kernel_rfl) (by kernel_rfl) (fun _ _ _ h => h) (Or.inl ⟨by rfl, ?h23_4⟩) c3 ?r23_4
                case h23_4 => (intro wS hSw; go_simp; all_goals (with_reducible rfl))
                simp only [Act.put, List.setIfInBounds_toArray, List.set_cons_zero, List.set_cons_succ]
                refine take_drop (i := 24) (v := ?v24_4) rfl (by kernel_rfl) (by kernel_rfl) (by kernel_rfl) (fun _ _ _ h => h) (Or.inl ⟨by rfl, ?h24_4⟩) c3 ?r24_4
                case h24_4 => (intro wS hSw; go_simp; all_goals (with_reducible rfl))
                simp only [Act.put, List.setIfInBounds_toArray, List.set_cons_zero, List.set_cons_succ]
                refine take_drop (i := 25) (v := ?v25_4) rfl (by kernel_rfl) (by kernel_rfl) (by kernel_rfl) (fun _ _ _ h => h) (Or.inl ⟨by rfl, ?h25_4⟩) c3 ?r25_4
                case h25_4 => (intro wS hSw; go_simp; all_goals (with_reducible rfl))
                simp only [Act.put, List.setIfInBounds_toArray, List.set_cons_zero, List.set_cons_succ]
                refine take_drop (i := 26) (v := ?v26_4) rfl (by kernel_rfl) (by kernel_rfl) (by kernel_rfl) (fun _ _ _ h => h) (Or.inl ⟨by rfl, ?h26_4⟩) c3 ?r26_4
                case h26_4 => (intro wS hSw; go_simp; all_goals (with_reducible rfl))
                simp only [Act.put, List.setIfInBounds_toArray, List.set_cons_zero, List.set_cons_succ]
                refine take_drop (i := 28) (v := ?v28_4) rfl (by kernel_rfl) (by kernel_rfl) (by kernel_rfl) (fun _ _ _ h => h) (Or.inl ⟨by rfl, ?h28_4⟩) c3 ?r28_4
                case h28_4 => (intro wS hSw; go_simp; all_goals (with_reducible rfl))
                simp only [Act.put, List.setIfInBounds_toArray, List.set_cons_zero, List.set_cons_succ]
                refine take_drop (i := 29) (v := ?v29_4) rfl (by kernel_rfl) (by kernel_rfl) (by kernel_rfl) (fun _ _ _ h => h) (Or.inl ⟨by rfl, ?h29_4⟩) c3 ?r29_4
                case h29_4 => (intro wS hSw; go_simp; all_goals (with_reducible rfl))
                simp only [Act.put, List.setIfInBounds_toArray, List.set_cons_zero, List.set_cons_succ]
                refine wpAnyH_ready (rs := [27]) (by kernel_rfl) (by simp) ?_
                refine do_drop (i := 27) rfl (fun K hK => ?_) AllReadyH.nil
                go_simp
                refine (HFLD.out _ HO4.out).mono ?_
                rintro e w5 ⟨rfl, hO5, f5⟩
                have c4 := f5.cell c3 (fun h => h)
                have HO5 := Lib.hid hO5
                clear hO5 f5
                refine hK.out _ _ c4 ?_
                clear hK K
                try simp only [Act.put, List.setIfInBounds_toArray, List.set_cons_zero, List.set_cons_succ]
                refine wpAnyH_ready (rs := [30]) (by kernel_rfl) (by simp) ?_
                refine do_drop (i := 30) rfl (fun K hK => ?_) AllReadyH.nil
                go_simp
                refine (HPTR.out _ HO5.out).mono ?_
                rintro e w6 ⟨rfl, hO6, f6⟩
                have c5 := f6.cell c4 (fun h => h)
                have HO6 := Lib.hid hO6
                clear hO6 f6
                refine hK.out _ _ c5 ?_
                clear hK K
                try simp only [Act.put, List.setIfInBounds_toArray, List.set_cons_zero, List.set_cons_succ]
                refine take_drop (i := 31) (v := ?v31_4) rfl (by kernel_rfl) (by kernel_rfl) (by kernel_rfl) (fun _ _ _ h => h) (Or.inl ⟨by rfl, ?h31_4⟩) c5 ?r31_4
                case h31_4 => (intro wS hSw; go_simp; all_goals (with_reducible rfl))
                simp only [Act.put, List.setIfInBounds_toArray, List.set_cons_zero, List.set_cons_succ]
                refine take_drop (i := 32) (v := ?v32_4) rfl (by kernel_rfl) (by kernel_rfl) (by kernel_rfl) (fun _ _ _ h => h) (Or.inl ⟨by rfl, ?h32_4⟩) c5 ?r32_4
                case h32_4 => (intro wS hSw; go_simp; all_goals (with_reducible rfl))
                simp only [Act.put, List.setIfInBounds_toArray, List.set_cons_zero, List.set_cons_succ]
                refine wpAnyH_done (by kernel_rfl) ?_ _
                clear hHeld c1 c2 c3 c4 c5 HOD HO4 HO5
                go_wp2_with fail
                go_roundw
                case rel => exact ⟨q + 1, by simp, by rw [HC0.out], by omega, HO6.out⟩
                case measure => simp [intOf]; omega

            · obtain rfl : q = Z := by omega
              have d2 : decide ((q : Int) < (q : Int)) = false := by simp
              have HALL : Hid (cntO m7 q = opened m7) := Lib.hid (by rw [← HG7.out.z]; exact cntO_all m7)
              have hop : opened m7 ≤ O := by
                have := HOR.out.wf.op
                rw [HG7.out.o] at this
                exact this
              have HOP := Lib.hid (HOR.out.opened HM.out)
              rw [HALL.out] at cle ⊢
              obtain ⟨X, hX⟩ : ∃ x, opened m7 = x := ⟨_, rfl⟩
              rw [hX] at HOP hop cle ⊢
              clear hX HALL
              have dz : ((X : Int) == (X : Int)) = true := by simp
              have d3 : decide ((O : Int) < (X : Int)) = false := by rw [decide_eq_false_iff_not]; omega
              go_wp2_with fail
              refine HOP.out.mono ?_
              rintro e w9 ⟨rfl, hO9, _⟩
              have HO9 := Lib.hid hO9
              have c9 := HA0.out.keep hO9.fr (fun h => h)
              have g0 := c9.cell 0
              have g1 := c9.cell 1
              have g2 := c9.cell 2
              simp at g0 g1 g2
              clear hO9 c9
              go_wp2_with fail
              go_roundw
              case rel => exact ⟨j + 1, F7, m7, by simp, by omega, HO9.out, HG7.out, hd7⟩
              case measure => simp [intOf]; omega
      · obtain rfl : j = N := by omega
        have d1 : decide ((j : Int) < (j : Int)) = false := by simp
        go_wp2_with fail
        refine (awake_c HM.out _).mono ?_
        rintro e w3 ⟨rfl, f3⟩
        have HF3 := Lib.hid (HF0.out.trans (HO.out.fr.trans f3))
        clear f3
        go_wp2_with fail
        go_ret
        exact ⟨rfl, FIN.out _ HF3.out⟩
end
end Go.Proofs.Ytkoebafalbcnbaa
