/-
  Layer 7, the program's own device: Arm.
-/
import Derived.Test.YtmkadpjacidlkaaZrQ
namespace Go.Proofs.Ytmkadpjacidlkaa
set_option linter.unusedVariables false
open Go.RowKit

section
variable {w : World} {d : Nat} {F : Nat → Prop} {m : Dev}
set_option maxHeartbeats 800000 in
theorem arm_c (h : Dz w d F m) (n : Int) (wn : (Lit.int .i64 n).wf = true) : Calls Try.prog 18 #[.pointer (some ⟨d, 0, none⟩), .int .i64 n] w (StayD d F (armM m n) (.tuple #[]) w) := by
  have HD := Lib.hid h
  obtain ⟨_, zb, xs, ar, lf, h1, hF⟩ := h
  obtain ⟨c0, c1, c2, c3, c4, c5, c6, c7⟩ := h1.cells
  have q5 := h1.hd.frozen 5
  have q6 := h1.hd.frozen 6
  by_cases h0 : 0 ≤ n
  · have f : Fr (One d) w ((w.setCell ⟨d, 5, none⟩ (.bool true)).setCell ⟨d, 6, none⟩ (.int .i64 n)) := ((Fr.refl (One d) w).setCell (p := ⟨d, 5, none⟩) (fun _ => (rfl : d = d)) _).setCell (p := ⟨d, 6, none⟩) (fun _ => (rfl : d = d)) _
    have e : (armM m n).arm = some n.toNat := by unfold armM; rw [if_neg (by omega)]
    have R := HD.out.turn f hF (h1.turn (m' := armM m n) (ar' := true) (lf' := n) f (by simpa [dvC, armM] using (h1.hd.set_ 5 (.bool true)).set_ 6 (.int .i64 n)) rfl ⟨by rw [e]; rfl, wn, fun k hk => by rw [e] at hk; have := Option.some.inj hk; omega⟩)
    have R := Lib.hid R
    have d1 : decide (0 ≤ n) = true := by rw [decide_eq_true_eq]; exact h0
    have d2 : decide (n < 0) = false := by rw [decide_eq_false_iff_not]; omega
    clear HD h1 hF f e wn
    generalize armM m n = M at *
    generalize m.zs.length = l at *
    go_enter Try.func18, Try.ntmps18
    go_wp2_with fail
    go_end0
    exact ⟨rfl, R.out⟩
  · have f : Fr (One d) w ((w.setCell ⟨d, 5, none⟩ (.bool false)).setCell ⟨d, 6, none⟩ (.int .i64 0)) := ((Fr.refl (One d) w).setCell (p := ⟨d, 5, none⟩) (fun _ => (rfl : d = d)) _).setCell (p := ⟨d, 6, none⟩) (fun _ => (rfl : d = d)) _
    have e : (armM m n).arm = none := by unfold armM; rw [if_pos (by omega)]
    have R := HD.out.turn f hF (h1.turn (m' := armM m n) (ar' := false) (lf' := 0) f (by simpa [dvC, armM] using (h1.hd.set_ 5 (.bool false)).set_ 6 (.int .i64 0)) rfl ⟨by rw [e]; rfl, by decide, fun k hk => by rw [e] at hk; cases hk⟩)
    have R := Lib.hid R
    have d1 : decide (0 ≤ n) = false := by rw [decide_eq_false_iff_not]; exact h0
    have d2 : decide (n < 0) = true := by rw [decide_eq_true_eq]; omega
    clear HD h1 hF f e wn
    generalize armM m n = M at *
    generalize m.zs.length = l at *
    go_enter Try.func18, Try.ntmps18
    go_wp2_with fail
    go_end0
    exact ⟨rfl, R.out⟩
end
end Go.Proofs.Ytmkadpjacidlkaa
