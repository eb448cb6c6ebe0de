/-
  Texts of layer 14 and of what it stands on, one behind the other.
-/
import Derived.Test.YtihahckjcedceaaDoorMg11
import Derived.Test.YtihahckjcedceaaDoorMg10

/- Contracts of layer 2's reader: texts. -/
namespace Go.Proofs.YtihahckjcedceaaDoor
set_option linter.unusedVariables false
open Go.RowKit

set_option maxHeartbeats 400000 in
theorem rtextC_c (w : World) (B : Nat) (S : Nat → Prop) (st : St) (hr : Rr w B S st) :
    Calls Tryd.prog 75 #[.pointer (some ⟨B, 0, none⟩)] w (SliceRetC B S (textS st).1 (textS st).2 w) := by
  obtain ⟨l, bad⟩ := st
  have hr0 := hr
  obtain ⟨a, cap, hat, h2, h3, hin, hS⟩ := hr
  simp only at hat h2 hin
  have c2 : w.cell? ⟨B, 0, none⟩ = some (.slice a l.length cap) := by rw [hat.cell]; rfl
  have HD := Lib.hid (number_c a l.length cap l w rfl (by omega) hin.rd)
  have HC : Hid (Calls Tryd.prog 63 #[.pointer (some ⟨B, 0, none⟩), .int .i64 (decI l).2, .int .i64 (decI l).1] w (SliceRetC B S (textS (l, bad)).1 (textS (l, bad)).2 w)) := by
    unfold decI textS
    simp only
    cases hd : dec 9 0 l with
    | none => exact Lib.hid (takeC_bad (-1) (-1) w B S l bad hr0 (.inr (by decide)))
    | some p =>
      obtain ⟨n, k⟩ := p
      obtain ⟨b1, b2, b3, b4⟩ := dec_lt9 l n k hd
      cases bad with
      | true =>
        simp only
        rw [takeS_bad]
        exact Lib.hid (takeC_bad k n w B S l true hr0 (.inl rfl))
      | false => exact Lib.hid (takeC_c k n w B S l hr0 (by omega) (by omega) b2)
  clear hat h2 h3 hin hS hr0
  unfold retII at HD
  generalize (decI l).1 = n at *
  generalize (decI l).2 = k at *
  generalize textS (l, bad) = r at HC
  generalize l.length = len at *
  go_enter Tryd.func75, Tryd.ntmps75
  go_wp2_with fail
  refine (show Calls _ _ _ _ _ from HD.out).mono ?_
  rintro e w' ⟨rfl, rfl⟩
  go_wp2_with fail
  refine (show Calls _ _ _ _ _ from HC.out).mono ?_
  rintro e w' ⟨a, cap, rfl, h1, h2, h3, h4, h5⟩
  have HN : Hid (SliceRetC B S r.1 r.2 w (.returned (.slice a r.1.length cap)) w') := Lib.hid ⟨a, cap, rfl, h1, h2, h3, h4, h5⟩
  clear h1 h2 h3 h4 h5
  go_wp2_with fail
  go_ret
  exact HN.out
theorem rtext_c (w : World) (B : Nat) (S : Nat → Prop) (st : St) (hr : Rr w B S st) :
    Calls Tryd.prog 75 #[.pointer (some ⟨B, 0, none⟩)] w (SliceRet B S (textS st).1 (textS st).2 w) := (rtextC_c w B S st hr).mono fun _ _ h => h.ret

end Go.Proofs.YtihahckjcedceaaDoor
