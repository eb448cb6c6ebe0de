/-
  Layer 7, the program's own device: Reset.
-/
import Derived.Test.YtmkadpjacidlkaaZrQ
namespace Go.Proofs.Ytmkadpjacidlkaa
set_option linter.unusedVariables false
open Go.RowKit

section
variable {w : World} {d : Nat} {F : Nat → Prop} {m : Dev}
set_option maxRecDepth 20000 in
set_option maxHeartbeats 1600000 in
theorem reset_c (h : Dz w d F m) (hw : WF m) (hd : m.done < 1000000) (z : Int) :
    Calls Try.prog 32 #[.pointer (some ⟨d, 0, none⟩), .int .i64 z] w (MovD d F (resM m z) (.int .i64 (cmdR m (resErr m z))) w) := by
  have C := Lib.hid (reach_c h hw z)
  have CC := Lib.hid (command_c h hd)
  have HD := Lib.hid h
  by_cases he : resErr m z = 0
  · obtain ⟨_, H⟩ := resErr_ok he
    rw [he] at C ⊢
    rcases cmdR0 m with ⟨h1, h2⟩ | ⟨h1, h2⟩
    · rw [h2] at CC ⊢
      have e1 : resM m z = setZ (powM m) z zn0 := by unfold resM; rw [if_pos he, if_pos h1, pow_set]
      rw [e1]
      rw [← pow_has] at H
      clear e1 h1 h2 he h hw hd HD
      generalize powM m = M at *
      go_enter Try.func32, Try.ntmps32
      go_wp2_with fail
      refine C.out.mono ?_
      rintro e w1 ⟨rfl, rfl⟩
      go_wp2_with fail
      refine CC.out.mono ?_
      rintro e w1 ⟨rfl, ⟨h0, zb, xs, ar, lf, h1, hF⟩, hf⟩
      have HF := Lib.hid hf
      clear C CC hf
      obtain ⟨x, k, rfl, hk, hx, hz, z0, z1, z2⟩ := h1.zone H
      obtain ⟨c0, c1, c2, c3, c4, c5, c6, c7⟩ := h1.cells
      have q0 := h1.hz.frozen (k * 3)
      have q1 := h1.hz.frozen (k * 3 + 1)
      have q2 := h1.hz.frozen (k * 3 + 2)
      have f2 : Fr (One zb) w1 (((w1.setCell ⟨zb, k * 3, none⟩ (.slice none 0 0)).setCell ⟨zb, k * 3 + 1, none⟩ (.int .i64 0)).setCell ⟨zb, k * 3 + 2, none⟩ (.int .i64 0)) := (((Fr.refl (One zb) w1).setCell (p := ⟨zb, k * 3, none⟩) (fun _ => (rfl : zb = zb)) _).setCell (p := ⟨zb, k * 3 + 1, none⟩) (fun _ => (rfl : zb = zb)) _).setCell (p := ⟨zb, k * 3 + 2, none⟩) (fun _ => (rfl : zb = zb)) _
      have at2 := ((h1.hz.set_ (k * 3) (.slice none 0 0)).set_ (k * 3 + 1) (.int .i64 0)).set_ (k * 3 + 2) (.int .i64 0)
      have R := Lib.hid (Dz.put h0 h1 hF (x' := ⟨none, 0, zn0⟩) hx (Fr.refl _ _) (Row.nil _ _) f2 (by
        rw [zsC_012]
        exact at2))
      clear f2 at2 h0 h1 hF hx hz H
      generalize setZ M (k : Int) zn0 = MM at *
      generalize M.zs.length = n at *
      go_wp2_with fail
      go_ret
      exact mov2 HF.out R.out.2.1 R.out.1
    · rw [h2] at CC ⊢
      have e1 : resM m z = powM m := by unfold resM; rw [if_pos he, if_neg (by rw [h1]; simp)]
      rw [e1]
      clear e1 h1 h2 he h hw hd HD
      generalize powM m = M at *
      go_enter Try.func32, Try.ntmps32
      go_wp2_with fail
      refine C.out.mono ?_
      rintro e w1 ⟨rfl, rfl⟩
      go_wp2_with fail
      refine CC.out.mono ?_
      rintro e w1 ⟨rfl, hm⟩
      have HM := Lib.hid hm
      clear hm
      go_wp2_with fail
      go_ret
      exact StayD.mov ⟨rfl, HM.out⟩
  · have e2 : resM m z = m := by unfold resM; rw [if_neg he]
    have e3 : cmdR m (resErr m z) = resErr m z := by unfold cmdR; rw [if_neg he]
    rw [e2, e3]
    have e1 : (resErr m z == 0) = false := by rw [beq_eq_false_iff_ne]; exact he
    clear h e2 e3 hw he
    generalize resErr m z = R at *
    go_enter Try.func32, Try.ntmps32
    go_wp2_with fail
    refine C.out.mono ?_
    rintro e w1 ⟨rfl, rfl⟩
    go_wp2_with fail
    go_ret
    exact StayD.mov ⟨rfl, HD.out, Fr.refl _ _⟩
end
end Go.Proofs.Ytmkadpjacidlkaa
