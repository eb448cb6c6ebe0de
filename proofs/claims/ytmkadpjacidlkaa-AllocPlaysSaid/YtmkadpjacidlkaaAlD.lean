/-
  Layer 8: the laws' fixed answer, over the contracts of a table.
-/
import Derived.Test.YtmkadpjacidlkaaAlC
namespace Go.Proofs.Ytmkadpjacidlkaa
set_option linter.unusedVariables false
open Go.RowKit

section
variable {D : World → Nat → (Nat → Prop) → Dev → Prop} {T : World → Nat → (Nat → Prop) → Tb → Prop}
theorem newT_c (M : AllocOK D T) (z : Int) (w : World) (wz : wf64 z) (w0 : World) (f : Fr No w0 w) :
    Calls Try.prog 4 #[.int .i64 z] w fun e w' => Fr No w w' ∧ ((¬ (1 ≤ z ∧ z ≤ 64) ∧ e = .returned (.pointer none)) ∨ ((1 ≤ z ∧ z ≤ 64) ∧ ∃ t F, e = .returned (.pointer (some ⟨t, 0, none⟩)) ∧ OwnT T w0 w' t F (newT z) ∧ ∀ k, F k → w.heap.size ≤ k)) := by
  refine (M.new z w wz).mono fun e w' ⟨h1, h2, h3⟩ => ⟨h1, ?_⟩
  by_cases h : 1 ≤ z ∧ z ≤ 64
  · obtain ⟨t, F, he, hT, hF⟩ := h3 h.1 h.2
    exact .inr ⟨h, t, F, he, ⟨hT, fun k hk => Nat.le_trans f.size (hF k hk), f.trans h1, wt_new h.1 h.2⟩, hF⟩
  · exact .inl ⟨h, h2 (by omega)⟩
def t0 : Tb := newT 2
def t1 : Tb := takT t0 4
def t2 : Tb := takT t1 5
def t3 : Tb := takT t2 1
set_option maxRecDepth 20000 in
set_option maxHeartbeats 1600000 in
theorem awake_c (M : AllocOK D T) (w : World) : Calls Try.prog 5 #[] w (Yes w) := by
  have HM := Lib.hid M
  have CN := Lib.hid (newT_c M 2 w (by decide) w (Fr.refl _ _))
  go_enter Try.func5, Try.ntmps5
  go_wp2_with fail
  refine CN.out.mono ?_
  rintro e w1 ⟨_, ⟨h1, _⟩ | ⟨_, t, F1, rfl, h1, _⟩⟩
  · exact absurd h1 (by decide)
  have he : ∀ w : World, (binOp .eql 23 (.pointer (some ⟨t, 0, none⟩)) (.pointer none)).run Try.prog w = .ok (.bool false) w := fun _ => rfl
  have H1 : Hid (OwnT T w w1 t F1 t0) := Lib.hid h1
  have C1 := Lib.hid (H1.out.take HM.out (x := 4) (by decide))
  rw [show takZ t0 4 = 0 by decide, show takE t0 4 = 0 by decide] at C1
  clear h1 CN
  go_wp2_with fail
  refine C1.out.mono ?_
  rintro e w2 ⟨rfl, F2, h2, _, _⟩
  have H2 : Hid (OwnT T w w2 t F2 t1) := Lib.hid h2
  have C2 := Lib.hid (H2.out.take HM.out (x := 5) (by decide))
  rw [show takZ t1 5 = 1 by decide, show takE t1 5 = 0 by decide] at C2
  clear h2 C1
  go_wp2_with fail
  refine C2.out.mono ?_
  rintro e w3 ⟨rfl, F3, h3, _, _⟩
  have H3 : Hid (OwnT T w w3 t F3 t2) := Lib.hid h3
  have C3 := Lib.hid (H3.out.take HM.out (x := 1) (by decide))
  rw [show takZ t2 1 = 0 by decide, show takE t2 1 = 81 by decide] at C3
  clear h3 C2
  go_wp2_with fail
  refine C3.out.mono ?_
  rintro e w4 ⟨rfl, F4, h4, _, _⟩
  have H4 : Hid (OwnT T w w4 t F4 t3) := Lib.hid h4
  have C4 := Lib.hid (H4.out.role HM.out (z := 1) (by decide))
  rw [show roleT t3 1 = 5 by decide] at C4
  clear h4 C3
  go_wp2_with fail
  refine C4.out.mono ?_
  rintro e w5 ⟨rfl, h5, _⟩
  have H5 := Lib.hid h5.fr
  clear h5
  go_wp2_with fail
  go_ret
  exact ⟨rfl, H5.out⟩
end
end Go.Proofs.Ytmkadpjacidlkaa
