/-
  Contracts of layer 2's reader: numbers, single bytes, Done.
-/
import Derived.Test.YtidfjcaajejfoaaWireE
namespace Go.Proofs.Ytidfjcaajejfoaa
set_option linter.unusedVariables false
open Go.RowKit

set_option maxHeartbeats 400000 in
theorem rnum_c (w : World) (B : Nat) (S : Nat → Prop) (st : St) (hr : Rr w B S st) :
    Calls Try.prog 32 #[.pointer (some ⟨B, 0, none⟩)] w (StRet (.int .i64 ((numS st).1 : Int)) B S (numS st).2 w) := by
  obtain ⟨l, bad⟩ := st
  have hr0 := hr
  obtain ⟨a, cap, hat, h2, h3, hin, hS⟩ := hr
  simp only at hat h2 hin
  have c2 : w.cell? ⟨B, 0, none⟩ = some (.slice a l.length cap) := by rw [hat.cell]; rfl
  have HD := Lib.hid (number_c a l.length cap l w rfl (by omega) hin.rd)
  have HC0 : Hid (∃ v : St, (v = (numS (l, bad)).2 ∧ ((v.2 = true ∧ ((numS (l, bad)).1 : Int) = 0) ∨ (v.2 = false ∧ (decI l).1 = ((numS (l, bad)).1 : Int)))) ∧ Calls Try.prog 41 #[.pointer (some ⟨B, 0, none⟩), .int .i64 0, .int .i64 (decI l).2] w fun e w' => ∃ u, SliceRet B S u v w e w') := by
    unfold decI numS
    simp only
    cases hd : dec 9 0 l with
    | none =>
      refine Lib.hid ⟨(l, true), ⟨by cases bad <;> rfl, .inl ⟨rfl, by cases bad <;> rfl⟩⟩, (take_bad 0 (-1) w B S l bad hr0 (.inr (by decide))).mono fun e w' h => ⟨_, h⟩⟩
    | some p =>
      obtain ⟨n, k⟩ := p
      obtain ⟨b1, b2, b3, b4⟩ := dec_lt9 l n k hd
      cases bad with
      | true => exact Lib.hid ⟨(l, true), ⟨rfl, .inl ⟨rfl, rfl⟩⟩, (take_bad 0 k w B S l true hr0 (.inl rfl)).mono fun e w' h => ⟨_, h⟩⟩
      | false =>
        refine Lib.hid ⟨(l.drop k, false), ⟨rfl, .inr ⟨rfl, rfl⟩⟩, (take_c 0 k w B S l hr0 (by omega) (by omega) (Nat.zero_le _)).mono fun e w' h => ⟨_, h.st rfl ?_⟩⟩
        unfold takeS
        rw [if_neg (by simp; omega)]
        simp
  clear hat h2 h3 hin hS hr0
  unfold retII at HD
  obtain ⟨v, ⟨hv, hvv⟩, hc⟩ := HC0.out
  clear HC0
  have HC := Lib.hid hc
  clear hc
  rw [← hv]
  generalize (numS (l, bad)).1 = N at hvv
  clear hv
  generalize (decI l).1 = n at *
  generalize (decI l).2 = k at *
  generalize l.length = len at *
  rcases hvv with ⟨hv, hN⟩ | ⟨hv, hN⟩
  · have Hv := Lib.hid hv
    have HN := Lib.hid hN
    clear hv hN
    go_enter Try.func32, Try.ntmps32
    go_wp2_with fail
    refine (show Calls _ _ _ _ _ from HD.out).mono ?_
    rintro e w' ⟨rfl, rfl⟩
    go_wp2_with fail
    refine (show Calls _ _ _ _ _ from HC.out).mono ?_
    rintro e w' ⟨u, a, cap, rfl, h1, h2, h3⟩
    have c3 : w'.cell? ⟨B, 1, none⟩ = some (.bool true) := by
      obtain ⟨a, cap, hat, _⟩ := h2
      rw [hat.cell, Hv.out]
      rfl
    have H2 := Lib.hid h2
    have H3 := Lib.hid h3
    clear h1 h2 h3
    go_wp2_with fail
    go_ret
    exact ⟨by rw [HN.out]; rfl, H2.out, H3.out⟩
  · have Hv := Lib.hid hv
    have HN := Lib.hid hN
    clear hv hN
    go_enter Try.func32, Try.ntmps32
    go_wp2_with fail
    refine (show Calls _ _ _ _ _ from HD.out).mono ?_
    rintro e w' ⟨rfl, rfl⟩
    go_wp2_with fail
    refine (show Calls _ _ _ _ _ from HC.out).mono ?_
    rintro e w' ⟨u, a, cap, rfl, h1, h2, h3⟩
    have c3 : w'.cell? ⟨B, 1, none⟩ = some (.bool false) := by
      obtain ⟨a, cap, hat, _⟩ := h2
      rw [hat.cell, Hv.out]
      rfl
    have H2 := Lib.hid h2
    have H3 := Lib.hid h3
    clear h1 h2 h3
    go_wp2_with fail
    go_ret
    exact ⟨by rw [← HN.out]; rfl, H2.out, H3.out⟩
theorem byteS_take (st : St) : (takeS 0 1 st).2 = (byteS st).2 ∧ ((byteS st).2.2 = true ∧ (byteS st).1 = 0 ∨ (byteS st).2.2 = false ∧ (takeS 0 1 st).1 = [(byteS st).1]) := by
  obtain ⟨l, bad⟩ := st
  cases bad with
  | true => exact ⟨rfl, .inl ⟨rfl, rfl⟩⟩
  | false =>
    cases l with
    | nil => exact ⟨rfl, .inl ⟨rfl, rfl⟩⟩
    | cons c r =>
      have e : takeS 0 1 (c :: r, false) = ([c], (r, false)) := by
        unfold takeS
        rw [if_neg (by simp; omega)]
        simp
      rw [e]
      exact ⟨rfl, .inr ⟨rfl, rfl⟩⟩

set_option maxHeartbeats 400000 in
theorem rbyte_c (w : World) (B : Nat) (S : Nat → Prop) (st : St) (hr : Rr w B S st) :
    Calls Try.prog 42 #[.pointer (some ⟨B, 0, none⟩)] w (StRet (.int .u8 ((byteS st).1.toNat : Int)) B S (byteS st).2 w) := by
  have HC : Hid (Calls Try.prog 41 #[.pointer (some ⟨B, 0, none⟩), .int .i64 0, .int .i64 1] w (SliceRet B S (takeS 0 1 st).1 (takeS 0 1 st).2 w)) := by
    obtain ⟨l, bad⟩ := st
    cases bad with
    | true => exact Lib.hid ((take_bad 0 1 w B S l true hr (.inl rfl)).mono fun e w' h => h.st (by rw [takeS_bad]) (by rw [takeS_bad]))
    | false => exact Lib.hid (take_c 0 1 w B S l hr (by decide) (by decide) (Nat.zero_le _))
  obtain ⟨e1, e2⟩ := byteS_take st
  rw [e1] at HC
  generalize (takeS 0 1 st).1 = t at *
  generalize byteS st = r at *
  obtain ⟨c, v⟩ := r
  simp only at *
  clear hr e1
  rcases e2 with ⟨hv, hc⟩ | ⟨hv, ht⟩
  · have Hv := Lib.hid hv
    have Hc := Lib.hid hc
    clear hv hc
    go_enter Try.func42, Try.ntmps42
    go_wp2_with fail
    refine (show Calls _ _ _ _ _ from HC.out).mono ?_
    rintro e w' ⟨a, cap, rfl, h1, h2, h3⟩
    have c3 : w'.cell? ⟨B, 1, none⟩ = some (.bool true) := by
      obtain ⟨a, cap, hat, _⟩ := h2
      rw [hat.cell, Hv.out]
      rfl
    have H2 := Lib.hid h2
    have H3 := Lib.hid h3
    clear h1 h2 h3
    go_wp2_with fail
    go_ret
    exact ⟨by rw [Hc.out]; rfl, H2.out, H3.out⟩
  · have Hv := Lib.hid hv
    subst ht
    have hcl := c.toNat_lt
    clear hv
    go_enter Try.func42, Try.ntmps42
    go_wp2_with fail
    refine (show Calls _ _ _ _ _ from HC.out).mono ?_
    rintro e w' ⟨a, cap, rfl, h1, h2, h3⟩
    have c3 : w'.cell? ⟨B, 1, none⟩ = some (.bool false) := by
      obtain ⟨a, cap, hat, _⟩ := h2
      rw [hat.cell, Hv.out]
      rfl
    obtain ⟨b, o, _, rfl, hc⟩ := h1 (by simp)
    have c4 : w'.cell? ⟨b, o, none⟩ = some (.int .u8 (c.toNat : Int)) := hc 0 (by simp)
    have H2 := Lib.hid h2
    have H3 := Lib.hid h3
    clear h2 h3 hc
    simp only [List.length_cons, List.length_nil, Nat.zero_add]
    go_wp2_with fail
    go_ret
    exact ⟨rfl, H2.out, H3.out⟩

/-- What Done tells. -/
def doneI (st : St) : Int := if st.2 = true ∨ 0 < st.1.length then 20 else 0
set_option maxHeartbeats 400000 in
theorem rdone_c (w : World) (B : Nat) (S : Nat → Prop) (st : St) (hr : Rr w B S st) :
    Calls Try.prog 34 #[.pointer (some ⟨B, 0, none⟩)] w fun e w' => e = .returned (.int .i64 (doneI st)) ∧ w = w' := by
  obtain ⟨l, b⟩ := st
  obtain ⟨a, cap, hat, _⟩ := hr
  have c0 : w.cell? ⟨B, 0, none⟩ = some (.slice a l.length cap) := by rw [hat.cell]; rfl
  have c1 : w.cell? ⟨B, 1, none⟩ = some (.bool b) := by rw [hat.cell]; rfl
  unfold doneI
  simp only
  clear hat
  generalize l.length = n at *
  cases b with
  | true =>
    rw [if_pos (.inl rfl)]
    go_enter Try.func34, Try.ntmps34
    go_wp2_with fail
    go_ret
    exact ⟨rfl, rfl⟩
  | false =>
    by_cases hn : 0 < n
    · rw [if_pos (.inr hn)]
      go_enter Try.func34, Try.ntmps34
      go_wp2_with fail
      go_ret
      exact ⟨rfl, rfl⟩
    · rw [if_neg (by simp; omega)]
      have h0 : n = 0 := by omega
      subst h0
      go_enter Try.func34, Try.ntmps34
      go_wp2_with fail
      go_ret
      exact ⟨rfl, rfl⟩
end Go.Proofs.Ytidfjcaajejfoaa
