/-
  Layer 7, the program's own device: Pointer.
-/
import Derived.Test.YtcekgalppbfnhaaDoorZrB
namespace Go.Proofs.YtcekgalppbfnhaaDoor
set_option linter.unusedVariables false
open Go.RowKit

section
variable {w : World} {d : Nat} {F : Nat → Prop} {m : Dev}
set_option maxHeartbeats 400000 in
theorem pointer_c (h : Dz w d F m) (hw : WF m) (z : Int) : Calls Tryd.prog 25 #[.pointer (some ⟨d, 0, none⟩), .int .i64 z] w (Is (.int .i64 (ptrM m z)) w) := by
  have C := Lib.hid (has_c h hw z)
  obtain ⟨_, zb, xs, ar, lf, h1, _, _, _⟩ := h
  obtain ⟨c0, c1, c2, c3, c4, c5, c6, c7⟩ := h1.cells
  have HR : Hid (ptrM m z = if hasZ m z then ((zoneM m z).b.length : Int) else 0) := Lib.hid rfl
  cases H : hasZ m z with
  | false =>
    rw [H] at C HR
    clear h1 hw H
    generalize ptrM m z = R at *
    go_enter Tryd.func25, Tryd.ntmps25
    go_wp2_with fail
    refine C.out.mono ?_
    rintro e w' ⟨rfl, rfl⟩
    go_wp2_with fail
    go_ret
    exact ⟨by rw [HR.out]; rfl, rfl⟩
  | true =>
    obtain ⟨x, k, rfl, hk, hx, hz, z0, z1, z2⟩ := h1.zone H
    rw [H] at C HR
    rw [← hz] at HR
    clear h1 hw H hx hz
    generalize ptrM m (k : Int) = R at *
    generalize m.zs.length = n at *
    generalize x.z.b.length = l at *
    go_enter Tryd.func25, Tryd.ntmps25
    go_wp2_with fail
    refine C.out.mono ?_
    rintro e w' ⟨rfl, rfl⟩
    go_wp2_with fail
    go_ret
    exact ⟨by rw [HR.out]; rfl, rfl⟩
end
end Go.Proofs.YtcekgalppbfnhaaDoor
