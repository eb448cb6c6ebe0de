/-
  Texts of layer 13 and of what it stands on, one behind the other.
-/
import Derived.Test.YtlobnbbndkhcbaaGreatDoorMg11

/- Contracts of layer 2's reader: numbers. -/
namespace Go.Proofs.YtlobnbbndkhcbaaGreatDoor
set_option linter.unusedVariables false
open Go.RowKit

set_option maxHeartbeats 400000 in
theorem rnum_c (w : World) (B : Nat) (S : Nat → Prop) (st : St) (hr : Rr w B S st) :
    Calls Tryz.prog 153 #[.pointer (some ⟨B, 0, none⟩)] w (StRet (.int .i64 ((numS st).1 : Int)) B S (numS st).2 w) := by
  obtain ⟨l, bad⟩ := st
  have hr0 := hr
  obtain ⟨a, cap, hat, h2, h3, hin, hS⟩ := hr
  simp only at hat h2 hin
  have c2 : w.cell? ⟨B, 0, none⟩ = some (.slice a l.length cap) := by rw [hat.cell]; rfl
  have HD := Lib.hid (number_c a l.length cap l w rfl (by omega) hin.rd)
  have HC0 : Hid (∃ v : St, (v = (numS (l, bad)).2 ∧ ((v.2 = true ∧ ((numS (l, bad)).1 : Int) = 0) ∨ (v.2 = false ∧ (decI l).1 = ((numS (l, bad)).1 : Int)))) ∧ Calls Tryz.prog 146 #[.pointer (some ⟨B, 0, none⟩), .int .i64 0, .int .i64 (decI l).2] w fun e w' => ∃ u, SliceRet B S u v w e w') := by
    unfold decI numS
    simp only
    cases hd : dec 9 0 l with
    | none =>
      refine Lib.hid ⟨(l, true), ⟨by cases bad <;> rfl, .inl ⟨rfl, by cases bad <;> rfl⟩⟩, (take_bad 0 (-1) w B S l bad hr0 (.inr (by decide))).mono fun e w' h => ⟨_, h⟩⟩
    | some p =>
      obtain ⟨n, k⟩ := p
      obtain ⟨b1, b2, b3, b4⟩ := dec_lt9 l n k hd
      cases bad with
      | true => exact Lib.hid ⟨(l, true), ⟨rfl, .inl ⟨rfl, rfl⟩⟩, (take_bad 0 k w B S l true hr0 (.inl rfl)).mono fun e w' h => ⟨_, h⟩⟩
      | false =>
        refine Lib.hid ⟨(l.drop k, false), ⟨rfl, .inr ⟨rfl, rfl⟩⟩, (take_c 0 k w B S l hr0 (by omega) (by omega) (Nat.zero_le _)).mono fun e w' h => ⟨_, h.st rfl ?_⟩⟩
        unfold takeS
        rw [if_neg (by simp; omega)]
        simp
  clear hat h2 h3 hin hS hr0
  unfold retII at HD
  obtain ⟨v, ⟨hv, hvv⟩, hc⟩ := HC0.out
  clear HC0
  have HC := Lib.hid hc
  clear hc
  rw [← hv]
  generalize (numS (l, bad)).1 = N at hvv
  clear hv
  generalize (decI l).1 = n at *
  generalize (decI l).2 = k at *
  generalize l.length = len at *
  rcases hvv with ⟨hv, hN⟩ | ⟨hv, hN⟩
  · have Hv := Lib.hid hv
    have HN := Lib.hid hN
    clear hv hN
    go_enter Tryz.func153, Tryz.ntmps153
    go_wp2_with fail
    refine (show Calls _ _ _ _ _ from HD.out).mono ?_
    rintro e w' ⟨rfl, rfl⟩
    go_wp2_with fail
    refine (show Calls _ _ _ _ _ from HC.out).mono ?_
    rintro e w' ⟨u, a, cap, rfl, h1, h2, h3⟩
    have c3 : w'.cell? ⟨B, 1, none⟩ = some (.bool true) := by
      obtain ⟨a, cap, hat, _⟩ := h2
      rw [hat.cell, Hv.out]
      rfl
    have H2 := Lib.hid h2
    have H3 := Lib.hid h3
    clear h1 h2 h3
    go_wp2_with fail
    go_ret
    exact ⟨by rw [HN.out]; rfl, H2.out, H3.out⟩
  · have Hv := Lib.hid hv
    have HN := Lib.hid hN
    clear hv hN
    go_enter Tryz.func153, Tryz.ntmps153
    go_wp2_with fail
    refine (show Calls _ _ _ _ _ from HD.out).mono ?_
    rintro e w' ⟨rfl, rfl⟩
    go_wp2_with fail
    refine (show Calls _ _ _ _ _ from HC.out).mono ?_
    rintro e w' ⟨u, a, cap, rfl, h1, h2, h3⟩
    have c3 : w'.cell? ⟨B, 1, none⟩ = some (.bool false) := by
      obtain ⟨a, cap, hat, _⟩ := h2
      rw [hat.cell, Hv.out]
      rfl
    have H2 := Lib.hid h2
    have H3 := Lib.hid h3
    clear h1 h2 h3
    go_wp2_with fail
    go_ret
    exact ⟨by rw [← HN.out]; rfl, H2.out, H3.out⟩
end Go.Proofs.YtlobnbbndkhcbaaGreatDoor
