/-
  Layer 3's awake.
-/
import Derived.Test.YtdpfgkjjjjkfkaaIkC2
import Derived.Test.YtdpfgkjjjjkfkaaOpenB
namespace Go.Proofs.Ytdpfgkjjjjkfkaa
set_option linter.unusedVariables false
open Go.RowKit

theorem At.key {w : World} {g : Nat} {t : TypeId} {x y z : Value} (h : At w g t #[x, y, z]) : w.cell? ⟨g, 0, none⟩ = some x ∧ w.cell? ⟨g, 1, none⟩ = some y ∧ w.cell? ⟨g, 2, none⟩ = some z := ⟨h.cell 0, h.cell 1, h.cell 2⟩
/-- A law's answer: true, and nothing of before has turned. -/
def Yes (w : World) (e : Ending) (w' : World) : Prop := PlainRet (.bool true) w e w'
theorem Yes.post {w : World} {e : Ending} {w' : World} (h : Yes w e w') : e = .returned (.bool true) ∧ Below w.heap.size w w' := ⟨h.1, h.2.below (Nat.le_refl _) (fun _ h => h.elim)⟩

set_option maxRecDepth 20000 in
set_option maxHeartbeats 800000 in
theorem awake_c (w : World) : Calls Try.prog 11 #[] w (Yes w) := by
  have C0 := bytes_yes ⟨#[97]⟩ 1 2 w (by decide)
  rw [show encK (ByteArray.mk #[97]).data.toList 1 2 = [97, 0, 1, 0, 255, 255, 255, 255, 255, 253] by decide] at C0
  have C0 := Lib.hid C0
  have C1 := fun w => cmp_c ⟨#[97]⟩ ⟨#[97]⟩ 5 1 4 3 w
  rw [show cmpK (ByteArray.mk #[97]).data.toList 5 1 (ByteArray.mk #[97]).data.toList 4 3 = -1 by decide] at C1
  have C1 := Lib.hid C1
  go_enter Try.func11, Try.ntmps11
  go_wp2_with fail
  refine C0.out.mono ?_
  rintro e w1 ⟨a, cap, rfl, hrow, hf⟩
  obtain ⟨a', cap', hv, h1, h2, hin⟩ := hrow.form
  obtain ⟨rfl, rfl⟩ : a = a' ∧ cap = cap' := by simpa using hv
  obtain ⟨b, o, _, rfl, hc⟩ := hin (by decide)
  have c0 := hc 0 (by decide)
  have c9 := hc 9 (by decide)
  simp at c0 c9
  have HF := Lib.hid hf
  clear hrow hin hc hv hf
  go_wp2_with (go_at_call 20; refine (C1.out _).mono ?_; rintro e w2 ⟨rfl, hf2⟩)
  go_ret
  exact ⟨rfl, HF.out.trans hf2⟩
end Go.Proofs.Ytdpfgkjjjjkfkaa
