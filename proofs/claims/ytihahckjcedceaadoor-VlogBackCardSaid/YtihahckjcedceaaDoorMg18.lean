/-
  Texts of layer 14 and of what it stands on, one behind the other.
-/
import Derived.Test.YtihahckjcedceaaDoorMg15

/- Layer 7, the program's own device: Pointer. -/
namespace Go.Proofs.YtihahckjcedceaaDoor
set_option linter.unusedVariables false
open Go.RowKit

section
variable {w : World} {d : Nat} {F : Nat → Prop} {m : Dev}
set_option maxHeartbeats 400000 in
theorem pointer_c (h : Dz w d F m) (hw : WF m) (z : Int) : Calls Tryd.prog 26 #[.pointer (some ⟨d, 0, none⟩), .int .i64 z] w (Is (.int .i64 (ptrM m z)) w) := by
  have C := Lib.hid (has_c h hw z)
  obtain ⟨_, zb, xs, ar, lf, h1, _, _, _⟩ := h
  obtain ⟨c0, c1, c2, c3, c4, c5, c6, c7⟩ := h1.cells
  have HR : Hid (ptrM m z = if hasZ m z then ((zoneM m z).b.length : Int) else 0) := Lib.hid rfl
  cases H : hasZ m z with
  | false =>
    rw [H] at C HR
    clear h1 hw H
    generalize ptrM m z = R at *
    go_enter Tryd.func26, Tryd.ntmps26
    go_wp2_with fail
    refine C.out.mono ?_
    rintro e w' ⟨rfl, rfl⟩
    go_wp2_with fail
    go_ret
    exact ⟨by rw [HR.out]; rfl, rfl⟩
  | true =>
    obtain ⟨x, k, rfl, hk, hx, hz, z0, z1, z2⟩ := h1.zone H
    rw [H] at C HR
    rw [← hz] at HR
    clear h1 hw H hx hz
    generalize ptrM m (k : Int) = R at *
    generalize m.zs.length = n at *
    generalize x.z.b.length = l at *
    go_enter Tryd.func26, Tryd.ntmps26
    go_wp2_with fail
    refine C.out.mono ?_
    rintro e w' ⟨rfl, rfl⟩
    go_wp2_with fail
    go_ret
    exact ⟨by rw [HR.out]; rfl, rfl⟩
end
end Go.Proofs.YtihahckjcedceaaDoor

/- Layer 7, the program's own device: command. -/
namespace Go.Proofs.YtihahckjcedceaaDoor
set_option linter.unusedVariables false
open Go.RowKit

/-- Behind a call that turns its cells, and makes nothing of its own. -/
def StayD (d : Nat) (F : Nat → Prop) (m : Dev) (v : Value) (w : World) (e : Ending) (w' : World) : Prop := e = .returned v ∧ Dz w' d F m ∧ Fr F w w'
theorem DzAt.turn {w w' : World} {d zb : Nat} {xs : List Zm} {m m' : Dev} {ar ar' : Bool} {lf lf' : Int} (h : DzAt w d zb xs m ar lf) (f : Fr (One d) w w')
    (hd : At w' d 98 (dvC (m.zs.length : Int) (m'.size : Int) (m'.opn : Int) zb m.zs.length (m'.done : Int) ar' lf' m'.down)) (hz : m'.zs = m.zs) (ha : armA m' ar' lf') : DzAt w' d zb xs m' ar' lf' := by
  refine ⟨?_, h.hz.keep f (fun e => h.ne (show zb = d from e).symm), h.ne, by rw [hz]; exact h.mz, ha, fun i x hx => (h.row i x hx).keep f (fun k hk e => hk.1 (show k = d from e)), h.two⟩
  rw [hz]
  exact hd
theorem Dz.turn {w w' : World} {d : Nat} {F : Nat → Prop} {m m' : Dev} {zb : Nat} {xs : List Zm} {ar' : Bool} {lf' : Int} (h : Dz w d F m) (f : Fr (One d) w w') (hF : F d ∧ F zb ∧ ∀ x ∈ xs, ∀ k, x.g = some k → F k) (h2 : DzAt w' d zb xs m' ar' lf') : Dz w' d F m' ∧ Fr F w w' :=
  ⟨⟨fun k hk => Nat.lt_of_lt_of_le (h.1 k hk) f.size, zb, xs, ar', lf', h2, hF⟩, f.sub fun k _ hk => by rw [show k = d from hk]; exact hF.1⟩
theorem cmdR_0 (m : Dev) : cmdR m 0 = if cmdM m then 0 else 74 := rfl
section
variable {w : World} {d : Nat} {F : Nat → Prop} {m : Dev}
set_option maxHeartbeats 800000 in
theorem command_c (h : Dz w d F m) (hd : m.done < 1000000) : Calls Tryd.prog 58 #[.pointer (some ⟨d, 0, none⟩)] w (StayD d F (powM m) (.int .i64 (cmdR m 0)) w) := by
  have HD := Lib.hid h
  obtain ⟨_, zb, xs, ar, lf, h1, hF⟩ := h
  obtain ⟨c0, c1, c2, c3, c4, c5, c6, c7⟩ := h1.cells
  have HF := Lib.hid hF
  have H1 := Lib.hid h1
  obtain ⟨a1, a2, a3⟩ := h1.arm
  have hs : IntKind.i64.wrap ((m.done : Int) + 1) = (m.done : Int) + 1 := by
    simp [IntKind.wrap, IntKind.signed, IntKind.bits]
    omega
  have hdn : ((m.done + 1 : Nat) : Int) = (m.done : Int) + 1 := by omega
  have hat := h1.hd
  have q4 := h1.hd.frozen 4
  have q6 := h1.hd.frozen 6
  have q7 := h1.hd.frozen 7
  cases ha : m.arm with
  | none =>
    have hp : powM m = { m with done := m.done + 1 } := by unfold powM; rw [ha]
    have hr : cmdR m 0 = 0 := by rw [cmdR_0, show cmdM m = true by unfold cmdM; rw [ha]]; rfl
    rw [ha] at a1
    obtain rfl : ar = false := a1
    have f : Fr (One d) w (w.setCell ⟨d, 4, none⟩ (.int .i64 ((m.done : Int) + 1))) := (Fr.refl (One d) w).setCell (p := ⟨d, 4, none⟩) (fun _ => (rfl : d = d)) _
    have R := HD.out.turn f HF.out (H1.out.turn (m' := powM m) (ar' := false) (lf' := lf) f (by rw [hp]; simpa [dvC] using hat.set_ 4 (.int .i64 ((m.done : Int) + 1))) (by rw [hp]) ⟨by rw [hp, show ({ m with done := m.done + 1 } : Dev).arm = m.arm from rfl, ha]; rfl, a2, fun k hk => by rw [hp, show ({ m with done := m.done + 1 } : Dev).arm = m.arm from rfl, ha] at hk; cases hk⟩)
    rw [hr]
    have R := Lib.hid R
    clear a3 hd ha hp hr f hat hF h1 hdn
    generalize powM m = M at *
    generalize m.done = dn at *
    generalize m.zs.length = n at *
    go_enter Tryd.func58, Tryd.ntmps58
    go_wp2_with fail
    go_ret
    exact ⟨rfl, R.out⟩
  | some k =>
    have hlf := a3 k ha
    subst hlf
    rw [ha] at a1
    obtain rfl : ar = true := a1
    cases k with
    | zero =>
      have hp : powM m = { m with down := true } := by unfold powM; rw [ha]
      have hr : cmdR m 0 = 74 := by rw [cmdR_0, show cmdM m = false by unfold cmdM; rw [ha]; rfl]; rfl
      have f : Fr (One d) w (w.setCell ⟨d, 7, none⟩ (.bool true)) := (Fr.refl (One d) w).setCell (p := ⟨d, 7, none⟩) (fun _ => (rfl : d = d)) _
      have R := HD.out.turn f HF.out (H1.out.turn (m' := powM m) (ar' := true) (lf' := 0) f (by rw [hp]; simpa [dvC] using hat.set_ 7 (.bool true)) (by rw [hp]) ⟨by rw [hp, show ({ m with down := true } : Dev).arm = m.arm from rfl, ha]; rfl, a2, fun k hk => by
        rw [hp, show ({ m with down := true } : Dev).arm = m.arm from rfl, ha] at hk
        rw [← Option.some.inj hk]
        rfl⟩)
      rw [hr]
      have R := Lib.hid R
      rw [show (((0 : Nat)) : Int) = 0 from rfl] at c6
      clear a3 hd ha hp hr f hat hF h1 hdn H1
      generalize powM m = M at *
      generalize m.done = dn at *
      generalize m.zs.length = n at *
      go_enter Tryd.func58, Tryd.ntmps58
      go_wp2_with fail
      go_ret
      exact ⟨rfl, R.out⟩
    | succ k =>
      have hp : powM m = { m with arm := some k, done := m.done + 1 } := by unfold powM; rw [ha]
      have hr : cmdR m 0 = 0 := by rw [cmdR_0, show cmdM m = true by unfold cmdM; rw [ha]; rfl]; rfl
      have f1 : Fr (One d) w (w.setCell ⟨d, 6, none⟩ (.int .i64 (k : Int))) := (Fr.refl (One d) w).setCell (p := ⟨d, 6, none⟩) (fun _ => (rfl : d = d)) _
      have f : Fr (One d) w ((w.setCell ⟨d, 6, none⟩ (.int .i64 (k : Int))).setCell ⟨d, 4, none⟩ (.int .i64 ((m.done : Int) + 1))) := f1.setCell (p := ⟨d, 4, none⟩) (fun _ => (rfl : d = d)) _
      simp [Lit.wf, IntKind.min, IntKind.max, IntKind.signed, IntKind.bits] at a2
      have R := HD.out.turn f HF.out (H1.out.turn (m' := powM m) (ar' := true) (lf' := (k : Int)) f (by rw [hp]; simpa [dvC] using (hat.set_ 6 (.int .i64 (k : Int))).set_ 4 (.int .i64 ((m.done : Int) + 1))) (by rw [hp]) ⟨by rw [hp]; rfl, by
          simp [Lit.wf, IntKind.min, IntKind.max, IntKind.signed, IntKind.bits]
          omega, fun k' hk => by
        rw [hp] at hk
        rw [← Option.some.inj hk]⟩)
      rw [hr]
      have R := Lib.hid R
      have e0 : (((k + 1 : Nat) : Int) == 0) = false := by rw [beq_eq_false_iff_ne]; omega
      have hk1 : IntKind.i64.wrap (((k + 1 : Nat) : Int) - 1) = (k : Int) := by
        simp [IntKind.wrap, IntKind.signed, IntKind.bits]
        omega
      clear a3 hd ha hp hr f f1 hat hF h1 hdn H1 a2
      generalize powM m = M at *
      generalize m.done = dn at *
      generalize m.zs.length = n at *
      generalize ((k + 1 : Nat) : Int) = k1 at *
      go_enter Tryd.func58, Tryd.ntmps58
      go_wp2_with fail
      go_ret
      exact ⟨rfl, R.out⟩
end
end Go.Proofs.YtihahckjcedceaaDoor
