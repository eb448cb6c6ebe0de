/-
  Texts of layer 14 and of what it stands on, one behind the other.
-/
import Derived.Test.YtihahckjcedceaaDoorMg09

/- Layer 7, the program's own device: within, has, reach, Down, State. -/
namespace Go.Proofs.YtihahckjcedceaaDoor
set_option linter.unusedVariables false
open Go.RowKit

def Is (v : Value) (w : World) (e : Ending) (w' : World) : Prop := e = .returned v ∧ w = w'
set_option maxHeartbeats 400000 in
theorem within_c (n lo hi : Int) (w : World) : Calls Tryd.prog 71 #[.int .i64 n, .int .i64 lo, .int .i64 hi] w (Is (.bool (decide (lo ≤ n) && decide (n ≤ hi))) w) := by
  cases h1 : decide (lo ≤ n) <;> cases h2 : decide (n ≤ hi)
  all_goals
    go_enter Tryd.func71, Tryd.ntmps71
    go_wp2_with fail
    go_ret
    exact ⟨rfl, rfl⟩
theorem has_eq {m : Dev} {z : Int} : (decide (0 ≤ z) && decide (z ≤ (m.zs.length : Int) - 1)) = hasZ m z := by
  unfold hasZ
  congr 1
  rw [decide_eq_decide]
  omega
section
variable {w : World} {d : Nat} {F : Nat → Prop} {m : Dev}
set_option maxHeartbeats 400000 in
theorem has_c (h : Dz w d F m) (hw : WF m) (z : Int) : Calls Tryd.prog 52 #[.pointer (some ⟨d, 0, none⟩), .int .i64 z] w (Is (.bool (hasZ m z)) w) := by
  obtain ⟨_, zb, xs, ar, lf, h1, _, _, _⟩ := h
  obtain ⟨c0, c1, c2, c3, c4, c5, c6, c7⟩ := h1.cells
  have C := Lib.hid (within_c z 0 ((m.zs.length : Int) - 1) w)
  rw [has_eq] at C
  have n1 := hw.n1
  have n64 := hw.n64
  clear h1 hw
  generalize hasZ m z = R at *
  generalize m.zs.length = n at *
  have hs : IntKind.i64.wrap ((n : Int) - 1) = (n : Int) - 1 := by
    simp [IntKind.wrap, IntKind.signed, IntKind.bits]
    omega
  go_enter Tryd.func52, Tryd.ntmps52
  go_wp2_with fail
  refine C.out.mono ?_
  rintro e w' ⟨rfl, rfl⟩
  go_wp2_with fail
  go_ret
  exact ⟨rfl, rfl⟩
set_option maxHeartbeats 400000 in
theorem reach_c (h : Dz w d F m) (hw : WF m) (z : Int) : Calls Tryd.prog 72 #[.pointer (some ⟨d, 0, none⟩), .int .i64 z] w (Is (.int .i64 (resErr m z)) w) := by
  have C := Lib.hid (has_c h hw z)
  obtain ⟨_, zb, xs, ar, lf, h1, _, _, _⟩ := h
  obtain ⟨c0, c1, c2, c3, c4, c5, c6, c7⟩ := h1.cells
  have HR : Hid (resErr m z = if m.down then 74 else if !hasZ m z then 70 else 0) := Lib.hid rfl
  clear h1 hw
  generalize resErr m z = R at *
  generalize hasZ m z = H at *
  generalize m.down = D at *
  cases D with
  | true =>
    go_enter Tryd.func72, Tryd.ntmps72
    go_wp2_with fail
    go_ret
    exact ⟨by rw [HR.out]; rfl, rfl⟩
  | false =>
    cases H with
    | true =>
      go_enter Tryd.func72, Tryd.ntmps72
      go_wp2_with fail
      refine C.out.mono ?_
      rintro e w' ⟨rfl, rfl⟩
      go_wp2_with fail
      go_ret
      exact ⟨by rw [HR.out]; rfl, rfl⟩
    | false =>
      go_enter Tryd.func72, Tryd.ntmps72
      go_wp2_with fail
      refine C.out.mono ?_
      rintro e w' ⟨rfl, rfl⟩
      go_wp2_with fail
      go_ret
      exact ⟨by rw [HR.out]; rfl, rfl⟩
set_option maxHeartbeats 400000 in
theorem state_c (h : Dz w d F m) (hw : WF m) (z : Int) : Calls Tryd.prog 50 #[.pointer (some ⟨d, 0, none⟩), .int .i64 z] w (Is (.int .i64 (stateM m z)) w) := by
  have C := Lib.hid (has_c h hw z)
  obtain ⟨_, zb, xs, ar, lf, h1, _, _, _⟩ := h
  obtain ⟨c0, c1, c2, c3, c4, c5, c6, c7⟩ := h1.cells
  have HR : Hid (stateM m z = if hasZ m z then ((zoneM m z).s : Int) else -1) := Lib.hid rfl
  cases H : hasZ m z with
  | false =>
    rw [H] at C HR
    clear h1 hw H
    generalize stateM m z = R at *
    go_enter Tryd.func50, Tryd.ntmps50
    go_wp2_with fail
    refine C.out.mono ?_
    rintro e w' ⟨rfl, rfl⟩
    go_wp2_with fail
    go_ret
    exact ⟨by rw [HR.out]; rfl, rfl⟩
  | true =>
    obtain ⟨x, k, rfl, hk, hx, hz, z0, z1, z2⟩ := h1.zone H
    rw [H] at C HR
    rw [← hz] at HR
    clear h1 hw H hx hz
    generalize stateM m (k : Int) = R at *
    generalize m.zs.length = n at *
    go_enter Tryd.func50, Tryd.ntmps50
    go_wp2_with fail
    refine C.out.mono ?_
    rintro e w' ⟨rfl, rfl⟩
    go_wp2_with fail
    go_ret
    exact ⟨by rw [HR.out]; rfl, rfl⟩
end
end Go.Proofs.YtihahckjcedceaaDoor
