/-
  Layer 7, the program's own device: what the power's going means for a change of a zone.
-/
import Derived.Test.YtmkadpjacidlkaaZrP
import Derived.Test.YtmkadpjacidlkaaZrC
namespace Go.Proofs.Ytmkadpjacidlkaa
set_option linter.unusedVariables false
open Go.RowKit

theorem pow_set (m : Dev) (z : Int) (y : Zn) : powM (setZ m z y) = setZ (powM m) z y := by
  obtain ⟨zs, size, opn, arm, done, down⟩ := m
  cases arm with
  | none => rfl
  | some k => cases k <;> rfl
theorem pow_has (m : Dev) (z : Int) : hasZ (powM m) z = hasZ m z := by
  obtain ⟨zs, size, opn, arm, done, down⟩ := m
  cases arm with
  | none => rfl
  | some k => cases k <;> rfl
theorem dpow_zs (m : Dev) : (powM m).zs = m.zs := by
  obtain ⟨zs, size, opn, arm, done, down⟩ := m
  cases arm with
  | none => rfl
  | some k => cases k <;> rfl
theorem cmdR0 (m : Dev) : (cmdM m = true ∧ cmdR m 0 = 0) ∨ (cmdM m = false ∧ cmdR m 0 = 74) := by
  unfold cmdR
  cases cmdM m
  · exact .inr ⟨rfl, rfl⟩
  · exact .inl ⟨rfl, rfl⟩
theorem mov2 {w w1 w2 : World} {d : Nat} {F : Nat → Prop} {m : Dev} {v : Value} (f0 : Fr F w w1) (f1 : Fr F w1 w2) (h : Dz w2 d (Gr F w1 w2) m) : MovD d F m v w (.returned v) w2 :=
  ⟨rfl, _, h, fun k hk => hk.elim .inl fun h => .inr ⟨Nat.le_trans f0.size h.1, h.2⟩, f0.trans f1⟩
theorem StayD.mov {d : Nat} {F : Nat → Prop} {m : Dev} {v : Value} {w : World} {e : Ending} {w' : World} (h : StayD d F m v w e w') : MovD d F m v w e w' := ⟨h.1, F, h.2.1, fun _ h => .inl h, h.2.2⟩
end Go.Proofs.Ytmkadpjacidlkaa
