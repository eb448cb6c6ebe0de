/-
  The walk of WireBad.
-/
import Derived.Test.YtpjfdhgkclnagaaWireH
namespace Go.Proofs.Ytpjfdhgkclnagaa
set_option linter.unusedVariables false
open Go.RowKit

/-! A reader that is bad. -/
section
variable {w : World} {B : Nat} {S : Nat → Prop} {l : List UInt8}
theorem rnum_b (hr : Rr w B S (l, true)) : Calls Try.prog 20 #[.pointer (some ⟨B, 0, none⟩)] w (StRet (.int .i64 0) B S (l, true) w) := rnum_c w B S (l, true) hr
theorem rbyte_b (hr : Rr w B S (l, true)) : Calls Try.prog 23 #[.pointer (some ⟨B, 0, none⟩)] w (StRet (.int .u8 0) B S (l, true) w) := rbyte_c w B S (l, true) hr
theorem rtext_b (hr : Rr w B S (l, true)) : Calls Try.prog 21 #[.pointer (some ⟨B, 0, none⟩)] w (SliceRet B S [] (l, true) w) := by
  have h := rtext_c w B S (l, true) hr
  rw [textS_bad] at h
  exact h
theorem rraw_b (n : Int) (hn : n ≤ 9223372036854775807) (hr : Rr w B S (l, true)) : Calls Try.prog 22 #[.pointer (some ⟨B, 0, none⟩), .int .i64 n] w (SliceRet B S [] (l, true) w) := by
  have h := rraw_c n w B S (l, true) hr hn
  rw [takeS_bad] at h
  exact h
theorem rbad_b (hr : Rr w B S (l, true)) : Calls Try.prog 24 #[.pointer (some ⟨B, 0, none⟩)] w fun e w' => e = .returned (.bool true) ∧ w = w' := rbad_c w B S (l, true) hr
theorem rleft_m {m : Nat} (hm : l.length = m) (hr : Rr w B S (l, true)) : Calls Try.prog 26 #[.pointer (some ⟨B, 0, none⟩)] w fun e w' => e = .returned (.int .i64 (m : Int)) ∧ w = w' := by
  subst hm
  exact rleft_c w B S (l, true) hr
theorem rdone_b (hr : Rr w B S (l, true)) : Calls Try.prog 25 #[.pointer (some ⟨B, 0, none⟩)] w fun e w' => e = .returned (.int .i64 20) ∧ w = w' := by
  have h := rdone_c w B S (l, true) hr
  rw [show doneI (l, true) = 20 by unfold doneI; simp] at h
  exact h
end
theorem wf_le {n : Int} (h : (Lit.int .i64 n).wf = true) : -9223372036854775808 ≤ n ∧ n ≤ 9223372036854775807 := by
  simp [Lit.wf, IntKind.min, IntKind.max, IntKind.signed, IntKind.bits] at h
  omega
theorem Fr.one {W w w' : World} {B : Nat} (f : Fr No W w) (h : Fr (One B) w w') (hB : W.heap.size ≤ B) : Fr No W w' := f.then_ h fun k hk h => by
  have : k = B := h
  omega

set_option maxRecDepth 20000 in
set_option maxHeartbeats 1600000 in
theorem wireBad_go (w : World) (a0 : Option Addr) (cap0 : Nat) (bs : List UInt8) (hb : bs.length ≤ 1000) (hc : bs.length ≤ cap0) (hr : Rd w a0 bs) (a : Option Addr) (cap : Nat) (l : List It) (hm : l.length ≤ maxLen) (hs : smallB l = true) (hi : Items w a l) :
    Calls Try.prog 8 #[.slice a0 bs.length cap0, .slice a l.length cap] w fun e w' => e = .returned (.bool true) ∧ Fr No w w' := by
  have CS := small_c a cap l w hm hi
  rw [hs] at CS
  obtain ⟨h60, h500⟩ := smallB_yes l hs
  obtain ⟨len, hlen⟩ : ∃ len, l.length = len := ⟨_, rfl⟩
  obtain ⟨m, hbm⟩ : ∃ m, bs.length = m := ⟨_, rfl⟩
  rw [hlen] at CS h60 ⊢
  rw [hbm] at hb ⊢
  have CS := Lib.hid CS
  have HL := Lib.hid hlen
  have HB := Lib.hid hbm
  have HI := Lib.hid hi
  have HR := Lib.hid hr
  have H5 := Lib.hid h500
  clear hi hlen hr hbm h500 hs hm hc
  go_enter Try.func8, Try.ntmps8
  go_wp2_with fail
  refine (show Calls _ _ _ _ _ from CS.out).mono ?_
  rintro e w1 ⟨rfl, f1⟩
  have C1 := Lib.hid (newr_c a0 m cap0 bs w1 HB.out (by omega) (HR.out.keep f1))
  have F1 := Lib.hid f1
  clear f1 CS
  go_wp2_with fail
  refine (show Calls _ _ _ _ _ from C1.out).mono ?_
  rintro e w2 ⟨R, S, rfl, hr, f2, hR, hS⟩
  have HRR : Hid (w.heap.size ≤ R) := Lib.hid (Nat.le_trans F1.out.size hR)
  have F2 := Lib.hid (F1.out.then_ f2 fun _ _ h => h)
  have C2 := rraw_c (-1) w2 R S _ hr (by decide)
  rw [show takeS 0 (-1) (bs, false) = ([], (bs, true)) by unfold takeS; rw [if_pos (.inr (.inl (by decide)))]] at C2
  have C2 := Lib.hid C2
  clear hr f2 hR hS C1 F1
  go_wp2_with fail
  refine (show Calls _ _ _ _ _ from C2.out).mono ?_
  rintro e w3 ⟨a3, cap3, rfl, _, hr, f3⟩
  have H3 := Lib.hid hr
  have F3 := Lib.hid (F2.out.one f3 HRR.out)
  clear hr f3 C2 F2
  go_wp2_with fail
  go_loopw [23] (fun i wr => ∃ k : Nat, i = .int .i64 k ∧ k ≤ len ∧ Fr No w wr ∧ Rr wr R S (bs, true)) (fun i _ => len - (intOf i).toNat)
  case atStart => exact ⟨0, rfl, Nat.zero_le _, F3.out, H3.out⟩
  case round =>
    obtain ⟨k, rfl, hk, hfr, hrr⟩ := hrel
    clear F3 H3
    have HF := Lib.hid hfr
    have HQ := Lib.hid hrr
    clear hfr hrr
    by_cases hlt : k < len
    · have hkl : k < l.length := by rw [HL.out]; exact hlt
      obtain ⟨b, o, rfl, hx⟩ := HI.out (by omega)
      have hx := (hx k l[k] (List.getElem?_eq_getElem hkl)).keep HF.out
      generalize l[k] = x at hx
      obtain ⟨c0, c1, c2, wk, wn, h1, h2, _⟩ := hx
      obtain ⟨kd, n, a, c, xb⟩ := x
      simp only at c0 c1 c2 wk wn h1 h2
      have hn := wf_le wn
      unfold maxLen at h2
      generalize xb.length = xm at *
      clear wk wn
      by_cases k1 : kd = 1
      · subst k1
        go_wp2_with fail
        refine (rnum_b (l := bs) (S := S) (HQ.out.keep ((Fr.refl No wr).alloc _) (fun h => h) fun _ _ h => h)).mono ?_
        rintro e w4 ⟨rfl, hr4, f4⟩
        have H4 := Lib.hid hr4
        have F4 := Lib.hid ((HF.out.alloc _).one f4 HRR.out)
        clear hr4 f4
        go_wp2_with fail
        refine (rbad_b H4.out).mono ?_
        rintro e w5 ⟨rfl, rfl⟩
        go_wp2_with fail
        refine (rdone_b H4.out).mono ?_
        rintro e w5 ⟨rfl, rfl⟩
        go_wp2_with fail
        refine (rleft_m HB.out H4.out).mono ?_
        rintro e w5 ⟨rfl, rfl⟩
        go_wp2_with fail
        go_roundw
        case rel => exact ⟨k + 1, by go_num, by omega, F4.out, H4.out⟩
        case measure => simp [intOf]; omega
      by_cases k2 : kd = 2
      · subst k2
        go_wp2_with fail
        refine (rtext_b (l := bs) (S := S) (HQ.out.keep ((Fr.refl No wr).alloc _) (fun h => h) fun _ _ h => h)).mono ?_
        rintro e w4 ⟨a4, cap4, rfl, _, hr4, f4⟩
        have H4 := Lib.hid hr4
        have F4 := Lib.hid ((HF.out.alloc _).one f4 HRR.out)
        clear hr4 f4
        go_wp2_with fail
        refine (rbad_b H4.out).mono ?_
        rintro e w5 ⟨rfl, rfl⟩
        go_wp2_with fail
        refine (rdone_b H4.out).mono ?_
        rintro e w5 ⟨rfl, rfl⟩
        go_wp2_with fail
        refine (rleft_m HB.out H4.out).mono ?_
        rintro e w5 ⟨rfl, rfl⟩
        go_wp2_with fail
        go_roundw
        case rel => exact ⟨k + 1, by go_num, by omega, F4.out, H4.out⟩
        case measure => simp [intOf]; omega
      by_cases k3 : kd = 3
      · subst k3
        go_wp2_with fail
        refine (rraw_b (l := bs) (S := S) n hn.2 (HQ.out.keep ((Fr.refl No wr).alloc _) (fun h => h) fun _ _ h => h)).mono ?_
        rintro e w4 ⟨a4, cap4, rfl, _, hr4, f4⟩
        have H4 := Lib.hid hr4
        have F4 := Lib.hid ((HF.out.alloc _).one f4 HRR.out)
        clear hr4 f4
        go_wp2_with fail
        refine (rbad_b H4.out).mono ?_
        rintro e w5 ⟨rfl, rfl⟩
        go_wp2_with fail
        refine (rdone_b H4.out).mono ?_
        rintro e w5 ⟨rfl, rfl⟩
        go_wp2_with fail
        refine (rleft_m HB.out H4.out).mono ?_
        rintro e w5 ⟨rfl, rfl⟩
        go_wp2_with fail
        go_roundw
        case rel => exact ⟨k + 1, by go_num, by omega, F4.out, H4.out⟩
        case measure => simp [intOf]; omega
      by_cases k4 : kd = 4
      · subst k4
        go_wp2_with fail
        refine (rbyte_b (l := bs) (S := S) (HQ.out.keep ((Fr.refl No wr).alloc _) (fun h => h) fun _ _ h => h)).mono ?_
        rintro e w4 ⟨rfl, hr4, f4⟩
        have H4 := Lib.hid hr4
        have F4 := Lib.hid ((HF.out.alloc _).one f4 HRR.out)
        clear hr4 f4
        go_wp2_with fail
        refine (rbad_b H4.out).mono ?_
        rintro e w5 ⟨rfl, rfl⟩
        go_wp2_with fail
        refine (rdone_b H4.out).mono ?_
        rintro e w5 ⟨rfl, rfl⟩
        go_wp2_with fail
        refine (rleft_m HB.out H4.out).mono ?_
        rintro e w5 ⟨rfl, rfl⟩
        go_wp2_with fail
        go_roundw
        case rel => exact ⟨k + 1, by go_num, by omega, F4.out, H4.out⟩
        case measure => simp [intOf]; omega
      · have e1 : (kd == 1) = false := by simpa using k1
        have e2 : (kd == 2) = false := by simpa using k2
        have e3 : (kd == 3) = false := by simpa using k3
        have e4 : (kd == 4) = false := by simpa using k4
        have H4 := Lib.hid (HQ.out.keep ((Fr.refl No wr).alloc (.cells #[.int .i64 kd, .int .i64 n, .slice a xm c] 29)) (fun h => h) fun _ _ h => h)
        have F4 := Lib.hid (HF.out.alloc (.cells #[.int .i64 kd, .int .i64 n, .slice a xm c] 29))
        clear k1 k2 k3 k4
        go_wp2_with fail
        clear e1 e2 e3 e4
        refine (rbad_b H4.out).mono ?_
        rintro e w5 ⟨rfl, rfl⟩
        go_wp2_with fail
        refine (rdone_b H4.out).mono ?_
        rintro e w5 ⟨rfl, rfl⟩
        go_wp2_with fail
        refine (rleft_m HB.out H4.out).mono ?_
        rintro e w5 ⟨rfl, rfl⟩
        go_wp2_with fail
        go_roundw
        case rel => exact ⟨k + 1, by go_num, by omega, F4.out, H4.out⟩
        case measure => simp [intOf]; omega
    · go_wp2_with fail
      refine (rbad_b HQ.out).mono ?_
      rintro e w5 ⟨rfl, rfl⟩
      go_wp2_with fail
      refine (awake_c wr).mono ?_
      rintro e w6 ⟨rfl, f⟩
      have F := Lib.hid (HF.out.then_ f fun _ _ h => h)
      clear f
      go_wp2_with fail
      go_ret
      exact ⟨rfl, F.out⟩

set_option maxRecDepth 20000 in
set_option maxHeartbeats 800000 in
theorem wireBad_out (w : World) (a0 : Option Addr) (cap0 : Nat) (n : Nat) (a : Option Addr) (cap : Nat) (l : List It) (hm : l.length ≤ maxLen) (hi : Items w a l) (hn : n ≤ maxLen) (h : 1000 < n ∨ smallB l = false) :
    Calls Try.prog 8 #[.slice a0 n cap0, .slice a l.length cap] w fun e w' => e = .returned (.bool true) ∧ Fr No w w' := by
  have CS := small_c a cap l w hm hi
  have CS := Lib.hid CS
  unfold maxLen at hm hn
  obtain ⟨len, hlen⟩ : ∃ len, l.length = len := ⟨_, rfl⟩
  rw [hlen] at CS hm ⊢
  clear hlen hi
  by_cases h1 : 1000 < n
  · go_enter Try.func8, Try.ntmps8
    go_wp2_with fail
    refine (awake_c w).mono ?_
    rintro e w6 ⟨rfl, f⟩
    have F := Lib.hid f
    clear f
    go_wp2_with fail
    go_ret
    exact ⟨rfl, F.out⟩
  · have hs : smallB l = false := h.elim (fun h => absurd h h1) id
    rw [hs] at CS
    clear hs h
    go_enter Try.func8, Try.ntmps8
    go_wp2_with fail
    refine (show Calls _ _ _ _ _ from CS.out).mono ?_
    rintro e w1 ⟨rfl, f1⟩
    have F1 := Lib.hid f1
    clear f1 CS
    go_wp2_with fail
    refine (awake_c w1).mono ?_
    rintro e w6 ⟨rfl, f⟩
    have F := Lib.hid (F1.out.then_ f fun _ _ h => h)
    clear f
    go_wp2_with fail
    go_ret
    exact ⟨rfl, F.out⟩

theorem wireBad_walk (w : World) (a0 : Option Addr) (c0 : Nat) (bs : List UInt8) (hc0 : bs.length ≤ c0) (hm0 : c0 ≤ maxLen) (rd0 : Rd w a0 bs) (a1 : Option Addr) (c1 : Nat) (l : List It) (hc1 : l.length ≤ c1) (hm1 : c1 ≤ maxLen) (rd1 : Items w a1 l) :
    Calls Try.prog 8 #[.slice a0 bs.length c0, .slice a1 l.length c1] w fun e w' => e = .returned (.bool true) ∧ Below w.heap.size w w' := by
  refine Calls.mono (R := fun e w' => e = .returned (.bool true) ∧ Fr No w w') ?_ fun e w' ⟨he, hf⟩ => ⟨he, hf.below (Nat.le_refl _) fun k h => h.elim⟩
  by_cases h : 1000 < bs.length
  · exact wireBad_out w a0 c0 _ a1 c1 l (by omega) rd1 (by omega) (.inl h)
  · cases hs : smallB l with
    | false => exact wireBad_out w a0 c0 _ a1 c1 l (by omega) rd1 (by omega) (.inr hs)
    | true => exact wireBad_go w a0 c0 bs (by omega) hc0 rd0 a1 c1 l (by omega) hs rd1
end Go.Proofs.Ytpjfdhgkclnagaa
