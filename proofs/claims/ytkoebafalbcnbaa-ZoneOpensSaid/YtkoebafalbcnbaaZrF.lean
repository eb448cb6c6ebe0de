/-
  Layer 7, the program's own device: Finish.
-/
import Derived.Test.YtkoebafalbcnbaaZrR
namespace Go.Proofs.Ytkoebafalbcnbaa
set_option linter.unusedVariables false
open Go.RowKit

theorem finErr_eq (m : Dev) (z : Int) : finErr m z = if resErr m z = 0 then (if (zoneM m z).s == 0 then 71 else 0) else resErr m z := by
  unfold finErr resErr
  cases m.down <;> cases hasZ m z <;> rfl
theorem pow_zone (m : Dev) (z : Int) : zoneM (powM m) z = zoneM m z := by unfold zoneM; rw [dpow_zs]
section
variable {w : World} {d : Nat} {F : Nat → Prop} {m : Dev}
set_option maxRecDepth 20000 in
set_option maxHeartbeats 1600000 in
theorem finish_c (h : Dz w d F m) (hw : WF m) (hd : m.done < 1000000) (z : Int) :
    Calls Try.prog 14 #[.pointer (some ⟨d, 0, none⟩), .int .i64 z] w (MovD d F (finM m z) (.int .i64 (cmdR m (finErr m z))) w) := by
  have C := Lib.hid (reach_c h hw z)
  have CC := Lib.hid (command_c h hd)
  have HD := Lib.hid h
  by_cases he : resErr m z = 0
  · obtain ⟨_, H⟩ := resErr_ok he
    have hfe := finErr_eq m z
    rw [if_pos he] at hfe
    obtain ⟨_, zb, xs, ar, lf, hz1, _⟩ := h
    obtain ⟨x, k, rfl, hk, hx, hz, z0, z1, z2⟩ := hz1.zone H
    obtain ⟨c0, c1, c2, c3, c4, c5, c6, c7⟩ := hz1.cells
    rw [he] at C
    rw [← hz] at hfe
    by_cases hs : x.z.s = 0
    · rw [show (x.z.s == 0) = true by rw [beq_iff_eq]; exact hs, if_pos rfl] at hfe
      rw [hfe, show cmdR m 71 = 71 from rfl, show finM m (k : Int) = m by unfold finM; rw [if_neg (by rw [hfe]; decide)]]
      rw [hs] at z2
      clear hs hfe hz1 hx hz H he hw hd CC z0 z1
      generalize m.zs.length = n at *
      go_enter Try.func14, Try.ntmps14
      go_wp2_with fail
      refine C.out.mono ?_
      rintro e w1 ⟨rfl, rfl⟩
      go_wp2_with fail
      go_ret
      exact StayD.mov ⟨rfl, HD.out, Fr.refl _ _⟩
    · have d0 : ((x.z.s : Int) == 0) = false := by rw [beq_eq_false_iff_ne]; omega
      rw [show (x.z.s == 0) = false by rw [beq_eq_false_iff_ne]; exact hs, if_neg (by simp)] at hfe
      rcases cmdR0 m with ⟨h1, h2⟩ | ⟨h1, h2⟩
      · rw [hfe]
        rw [h2] at CC ⊢
        have e1 : finM m (k : Int) = setZ (powM m) (k : Int) { x.z with s := 2 } := by unfold finM; rw [if_pos hfe, if_pos h1, pow_set, hz]
        rw [e1]
        rw [← pow_has] at H
        rw [← pow_zone] at hz
        clear e1 h1 h2 he hw hd HD hfe hs hz1 hx
        generalize powM m = M at *
        generalize m.zs.length = n at *
        generalize x.z.s = xs1 at z2 d0
        go_enter Try.func14, Try.ntmps14
        go_wp2_with fail
        refine C.out.mono ?_
        rintro e w1 ⟨rfl, rfl⟩
        go_wp2_with fail
        refine CC.out.mono ?_
        rintro e w1 ⟨rfl, ⟨h0, zb, xs, ar, lf, h1, hF⟩, hf⟩
        have HF := Lib.hid hf
        clear C CC hf c0 c1 c2 c3 c4 c5 c6 c7 z0 z1 z2 d0
        obtain ⟨x', k', hkk, hk, hx, hz', z0, z1, z2⟩ := h1.zone H
        obtain rfl : k' = k := by omega
        obtain ⟨c0, c1, c2, c3, c4, c5, c6, c7⟩ := h1.cells
        rw [← hz'] at hz
        have q2 := h1.hz.frozen (k' * 3 + 2)
        have f2 : Fr (One zb) w1 (w1.setCell ⟨zb, k' * 3 + 2, none⟩ (.int .i64 2)) := (Fr.refl (One zb) w1).setCell (p := ⟨zb, k' * 3 + 2, none⟩) (fun _ => (rfl : zb = zb)) _
        have at2 := h1.hz.set_ (k' * 3 + 2) (.int .i64 2)
        have R := (Dz.put h0 h1 hF (x' := { x' with z := { x'.z with s := 2 } }) hx (Fr.refl _ _) ⟨(h1.row k' x' hx).1, fun b hb => .inl hb⟩ f2 (by
          rw [zsC_2 hx]
          exact at2))
        dsimp only at R
        rw [← hz] at R
        have R := Lib.hid R
        clear f2 at2 h0 h1 hF hx hz H hz' hkk
        generalize setZ M (k' : Int) _ = MM at *
        generalize M.zs.length = n at *
        go_wp2_with fail
        go_ret
        exact mov2 HF.out R.out.2.1 R.out.1
      · rw [hfe]
        rw [h2] at CC ⊢
        have e1 : finM m (k : Int) = powM m := by unfold finM; rw [if_pos hfe, if_neg (by rw [h1]; simp)]
        rw [e1]
        clear e1 h1 h2 he hw hd HD hfe hs hz1 hx hz H
        generalize powM m = M at *
        generalize m.zs.length = n at *
        generalize x.z.s = xs1 at z2 d0
        go_enter Try.func14, Try.ntmps14
        go_wp2_with fail
        refine C.out.mono ?_
        rintro e w1 ⟨rfl, rfl⟩
        go_wp2_with fail
        refine CC.out.mono ?_
        rintro e w1 ⟨rfl, hm⟩
        have HM := Lib.hid hm
        clear hm
        go_wp2_with fail
        go_ret
        exact StayD.mov ⟨rfl, HM.out⟩
  · have e4 : finErr m z = resErr m z := by rw [finErr_eq, if_neg he]
    have e2 : finM m z = m := by unfold finM; rw [e4, if_neg he]
    have e3 : cmdR m (finErr m z) = resErr m z := by unfold cmdR; rw [e4, if_neg he]
    rw [e2, e3]
    have e1 : (resErr m z == 0) = false := by rw [beq_eq_false_iff_ne]; exact he
    clear h e2 e3 e4 hw he
    generalize resErr m z = R at *
    go_enter Try.func14, Try.ntmps14
    go_wp2_with fail
    refine C.out.mono ?_
    rintro e w1 ⟨rfl, rfl⟩
    go_wp2_with fail
    go_ret
    exact StayD.mov ⟨rfl, HD.out, Fr.refl _ _⟩
end
end Go.Proofs.Ytkoebafalbcnbaa
