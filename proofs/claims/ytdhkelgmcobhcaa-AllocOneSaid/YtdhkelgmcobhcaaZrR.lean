/-
  Layer 7, the program's own device: Reset.
-/
import Derived.Test.YtdhkelgmcobhcaaZrP
import Derived.Test.YtdhkelgmcobhcaaZrC
namespace Go.Proofs.Ytdhkelgmcobhcaa
set_option linter.unusedVariables false
open Go.RowKit

theorem pow_set (m : Dev) (z : Int) (y : Zn) : powM (setZ m z y) = setZ (powM m) z y := by
  obtain ⟨zs, size, opn, arm, done, down⟩ := m
  cases arm with
  | none => rfl
  | some k => cases k <;> rfl
theorem pow_has (m : Dev) (z : Int) : hasZ (powM m) z = hasZ m z := by
  obtain ⟨zs, size, opn, arm, done, down⟩ := m
  cases arm with
  | none => rfl
  | some k => cases k <;> rfl
theorem dpow_zs (m : Dev) : (powM m).zs = m.zs := by
  obtain ⟨zs, size, opn, arm, done, down⟩ := m
  cases arm with
  | none => rfl
  | some k => cases k <;> rfl
theorem cmdR0 (m : Dev) : (cmdM m = true ∧ cmdR m 0 = 0) ∨ (cmdM m = false ∧ cmdR m 0 = 74) := by
  unfold cmdR
  cases cmdM m
  · exact .inr ⟨rfl, rfl⟩
  · exact .inl ⟨rfl, rfl⟩
theorem mov2 {w w1 w2 : World} {d : Nat} {F : Nat → Prop} {m : Dev} {v : Value} (f0 : Fr F w w1) (f1 : Fr F w1 w2) (h : Dz w2 d (Gr F w1 w2) m) : MovD d F m v w (.returned v) w2 :=
  ⟨rfl, _, h, fun k hk => hk.elim .inl fun h => .inr ⟨Nat.le_trans f0.size h.1, h.2⟩, f0.trans f1⟩
theorem StayD.mov {d : Nat} {F : Nat → Prop} {m : Dev} {v : Value} {w : World} {e : Ending} {w' : World} (h : StayD d F m v w e w') : MovD d F m v w e w' := ⟨h.1, F, h.2.1, fun _ h => .inl h, h.2.2⟩
section
variable {w : World} {d : Nat} {F : Nat → Prop} {m : Dev}
set_option maxRecDepth 20000 in
set_option maxHeartbeats 1600000 in
theorem reset_c (h : Dz w d F m) (hw : WF m) (hd : m.done < 1000000) (z : Int) :
    Calls Try.prog 36 #[.pointer (some ⟨d, 0, none⟩), .int .i64 z] w (MovD d F (resM m z) (.int .i64 (cmdR m (resErr m z))) w) := by
  have C := Lib.hid (reach_c h hw z)
  have CC := Lib.hid (command_c h hd)
  have HD := Lib.hid h
  by_cases he : resErr m z = 0
  · obtain ⟨_, H⟩ := resErr_ok he
    rw [he] at C ⊢
    rcases cmdR0 m with ⟨h1, h2⟩ | ⟨h1, h2⟩
    · rw [h2] at CC ⊢
      have e1 : resM m z = setZ (powM m) z zn0 := by unfold resM; rw [if_pos he, if_pos h1, pow_set]
      rw [e1]
      rw [← pow_has] at H
      clear e1 h1 h2 he h hw hd HD
      generalize powM m = M at *
      go_enter Try.func36, Try.ntmps36
      go_wp2_with fail
      refine C.out.mono ?_
      rintro e w1 ⟨rfl, rfl⟩
      go_wp2_with fail
      refine CC.out.mono ?_
      rintro e w1 ⟨rfl, ⟨h0, zb, xs, ar, lf, h1, hF⟩, hf⟩
      have HF := Lib.hid hf
      clear C CC hf
      obtain ⟨x, k, rfl, hk, hx, hz, z0, z1, z2⟩ := h1.zone H
      obtain ⟨c0, c1, c2, c3, c4, c5, c6, c7⟩ := h1.cells
      have q0 := h1.hz.frozen (k * 3)
      have q1 := h1.hz.frozen (k * 3 + 1)
      have q2 := h1.hz.frozen (k * 3 + 2)
      have f2 : Fr (One zb) w1 (((w1.setCell ⟨zb, k * 3, none⟩ (.slice none 0 0)).setCell ⟨zb, k * 3 + 1, none⟩ (.int .i64 0)).setCell ⟨zb, k * 3 + 2, none⟩ (.int .i64 0)) := (((Fr.refl (One zb) w1).setCell (p := ⟨zb, k * 3, none⟩) (fun _ => (rfl : zb = zb)) _).setCell (p := ⟨zb, k * 3 + 1, none⟩) (fun _ => (rfl : zb = zb)) _).setCell (p := ⟨zb, k * 3 + 2, none⟩) (fun _ => (rfl : zb = zb)) _
      have at2 := ((h1.hz.set_ (k * 3) (.slice none 0 0)).set_ (k * 3 + 1) (.int .i64 0)).set_ (k * 3 + 2) (.int .i64 0)
      have R := Lib.hid (Dz.put h0 h1 hF (x' := ⟨none, 0, zn0⟩) hx (Fr.refl _ _) (Row.nil _ _) f2 (by
        rw [zsC_012]
        exact at2))
      clear f2 at2 h0 h1 hF hx hz H
      generalize setZ M (k : Int) zn0 = MM at *
      generalize M.zs.length = n at *
      go_wp2_with fail
      go_ret
      exact mov2 HF.out R.out.2.1 R.out.1
    · rw [h2] at CC ⊢
      have e1 : resM m z = powM m := by unfold resM; rw [if_pos he, if_neg (by rw [h1]; simp)]
      rw [e1]
      clear e1 h1 h2 he h hw hd HD
      generalize powM m = M at *
      go_enter Try.func36, Try.ntmps36
      go_wp2_with fail
      refine C.out.mono ?_
      rintro e w1 ⟨rfl, rfl⟩
      go_wp2_with fail
      refine CC.out.mono ?_
      rintro e w1 ⟨rfl, hm⟩
      have HM := Lib.hid hm
      clear hm
      go_wp2_with fail
      go_ret
      exact StayD.mov ⟨rfl, HM.out⟩
  · have e2 : resM m z = m := by unfold resM; rw [if_neg he]
    have e3 : cmdR m (resErr m z) = resErr m z := by unfold cmdR; rw [if_neg he]
    rw [e2, e3]
    have e1 : (resErr m z == 0) = false := by rw [beq_eq_false_iff_ne]; exact he
    clear h e2 e3 hw he
    generalize resErr m z = R at *
    go_enter Try.func36, Try.ntmps36
    go_wp2_with fail
    refine C.out.mono ?_
    rintro e w1 ⟨rfl, rfl⟩
    go_wp2_with fail
    go_ret
    exact StayD.mov ⟨rfl, HD.out, Fr.refl _ _⟩
end
end Go.Proofs.Ytdhkelgmcobhcaa
