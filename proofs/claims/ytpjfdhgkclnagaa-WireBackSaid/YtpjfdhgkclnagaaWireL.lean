/-
  The walk of WireOrder.
-/
import Derived.Test.YtpjfdhgkclnagaaWireK
namespace Go.Proofs.Ytpjfdhgkclnagaa
set_option linter.unusedVariables false
open Go.RowKit

theorem Row.rd {w : World} {S : Nat → Prop} {a : Option Addr} {n c : Nat} {l : List UInt8} (h : Row w S (.slice a n c) l) : Rd w a l := by
  obtain ⟨a', c', hv, _, _, hin⟩ := h.form
  cases hv
  exact hin.rd

set_option maxRecDepth 40000 in
set_option maxHeartbeats 8000000 in
theorem wireOrder_go (w : World) (a : Option Addr) (cap : Nat) (l : List Int) (hl60 : l.length ≤ 60) (hi : Ints w a l) (a0 : Option Addr) (cap0 : Nat) (r : List UInt8) (hb : r.length ≤ 500) (hr : Rd w a0 r) :
    Calls Try.prog 7 #[.slice a l.length cap, .slice a0 r.length cap0] w fun e w' => e = .returned (.bool true) ∧ Fr No w w' := by
  obtain ⟨len, hlen⟩ : ∃ len, l.length = len := ⟨_, rfl⟩
  obtain ⟨m, hbm⟩ : ∃ m, r.length = m := ⟨_, rfl⟩
  rw [hlen] at hl60 ⊢
  rw [hbm] at hb ⊢
  have HL := Lib.hid hlen
  have HB := Lib.hid hbm
  have HI := Lib.hid hi
  have HR := Lib.hid hr
  have HW0 := Lib.hid (WInv.new w w (Fr.refl _ _))
  clear hi hlen hr hbm
  go_enter Try.func7, Try.ntmps7
  go_wp2_with fail
  go_loopw [6, 27] (fun x i wr => ∃ (k n : Nat) (S : Nat → Prop), x = .int .i64 n ∧ i = .int .i64 k ∧ k ≤ len ∧ n = (encs (l.take k)).length ∧ n ≤ 9 * k ∧ WInv w wr w.heap.size S (encs (l.take k)) false ∧ ∀ (j : Nat) (y : Int), j < k → l[j]? = some y → 0 ≤ y) (fun _ i _ => len - (intOf i).toNat)
  case atStart => exact ⟨0, 0, No, rfl, rfl, Nat.zero_le _, rfl, by omega, HW0.out, fun j y h => absurd h (by omega)⟩
  case round =>
    obtain ⟨k, n, S, rfl, rfl, hk, hn, hn9, hw, hpos⟩ := hrel
    clear HW0
    have Hn := Lib.hid hn
    have HW := Lib.hid hw
    have HP := Lib.hid hpos
    clear hn hw hpos
    by_cases hlt : k < len
    · have hkl : k < l.length := by rw [HL.out]; exact hlt
      obtain ⟨b, o, rfl, hx⟩ := HI.out (by omega)
      obtain ⟨c0, wf⟩ := hx k l[k] (List.getElem?_eq_getElem hkl)
      have c0 := HW.out.fr.cell c0 (fun h => h)
      have HX : Hid (l[k]? = some l[k]) := Lib.hid (List.getElem?_eq_getElem hkl)
      generalize l[k] = x at c0 wf HX
      have hx := wf_i64 wf
      clear wf
      by_cases hneg : x < 0
      · go_wp2_with fail
        refine (awake_c wr).mono ?_
        rintro e w6 ⟨rfl, f⟩
        have F := Lib.hid (HW.out.fr.then_ f fun _ _ h => h)
        clear f
        go_wp2_with fail
        go_ret
        exact ⟨rfl, F.out⟩
      · obtain ⟨y, rfl⟩ := Int.eq_ofNat_of_zero_le (show 0 ≤ x by omega)
        have hy : y < 9223372036854775808 := by omega
        have C := wnum_c y wr w.heap.size S _ false HW.out.wr hy (by have := Hn.out; omega)
        have HE : Hid (encs (l.take (k + 1)) = encs (l.take k) ++ enc y) := Lib.hid (by rw [take_more l k _ HX.out, encs_snoc, Int.toNat_natCast])
        have C := Lib.hid C
        have CS := Lib.hid fun (w : World) => size_c y w hy
        have h9 := enc_len9 hy
        have HLen : Hid (n + (enc y).length = (encs (l.take (k + 1))).length) := Lib.hid (by rw [HE.out, List.length_append, ← Hn.out])
        have HP2 : Hid (∀ (j : Nat) (y : Int), j < k + 1 → l[j]? = some y → 0 ≤ y) := Lib.hid (fun j z hj hz => by
          rcases Nat.lt_or_ge j k with h | h
          · exact HP.out j z h hz
          · have : j = k := by omega
            subst this
            rw [HX.out] at hz
            cases hz
            omega)
        generalize (enc y).length = q at CS h9 HLen
        go_wp2_with fail
        refine (show Calls _ _ _ _ _ from C.out).mono ?_
        intro e w2 hret
        have hw2 := HW.out.of_ret hret
        obtain ⟨rfl, _, _⟩ := hret
        have HW2 := Lib.hid hw2
        clear hw2 C
        go_wp2_with fail
        refine (CS.out w2).mono ?_
        rintro e w3 ⟨rfl, rfl⟩
        go_wp2_with fail
        go_roundw
        case rel => exact ⟨k + 1, n + q, _, by go_num, by go_num, by omega, HLen.out, by omega, by rw [HE.out]; exact HW2.out, HP2.out⟩
        case measure => simp [intOf]; omega
    · have hk' : k = len := by omega
      have hall : l.take k = l := List.take_of_length_le (by rw [HL.out]; omega)
      rw [hall] at HW Hn
      have HPos : Hid (∀ (j : Nat) (y : Int), l[j]? = some y → 0 ≤ y) := Lib.hid (fun j y hy => HP.out j y (by rw [hk', ← HL.out]; exact (List.getElem?_eq_some_iff.1 hy).1) hy)
      have HE : Hid (∃ p, p = encs l) := Lib.hid ⟨_, rfl⟩
      obtain ⟨p, hp⟩ := HE.out
      rw [← hp] at HW Hn
      have HPe := Lib.hid hp
      have hp1000 : n ≤ 540 := by omega
      have C1 := wbytes_c wr w.heap.size S p HW.out.wr (by have := Hn.out; omega)
      have Hk := Lib.hid hk'
      clear hk' hall hp HP HE
      go_wp2_with fail
      refine C1.mono ?_
      rintro e w2 ⟨a1, c1, rfl, hc1, hc2, hrow1, f2⟩
      have HW2 := Lib.hid (HW.out.keep f2)
      have HR2 := Lib.hid hrow1
      have hb2 : ∀ k, Gr No wr w2 k → wr.heap.size ≤ k ∧ k < w2.heap.size := fun k hk => hk.elim (fun h => h.elim) id
      have Hb2 := Lib.hid hb2
      have C2 := Lib.hid (wraw_c a0 m cap0 r w2 w.heap.size S p false (HW2.out).wr HB.out (by have := Hn.out; omega) (HR.out.keep HW2.out.fr))
      rw [← Hn.out] at hc1 ⊢
      unfold maxLen at hc2
      clear C1 f2 hrow1 hb2
      go_wp2_with fail
      refine (show Calls _ _ _ _ _ from C2.out).mono ?_
      intro e w3 hret
      have hw3 := HW2.out.of_ret hret
      obtain ⟨rfl, _, f3⟩ := hret
      have HW3 := Lib.hid hw3
      have hrow3 : Row w3 (Gr No wr w2) (.slice a1 n c1) p := by
        have h := HR2.out
        rw [← Hn.out] at h
        refine h.keep f3 fun k hk hS => ?_
        have hk := Hb2.out k hk
        rcases hS with hS | hS
        · have : k = w.heap.size := hS
          have := HW.out.wr.lt
          omega
        · obtain ⟨v, _, _, _, hS2⟩ := HW.out.wr
          have := hS2 k hS
          omega
      have HR3 := Lib.hid hrow3
      have C3 := Lib.hid (wbytes_c w3 w.heap.size _ (p ++ r) hw3.wr (by rw [List.length_append]; have := Hn.out; have := HB.out; omega))
      clear hw3 f3 hrow3 C2
      go_wp2_with fail
      refine (show Calls _ _ _ _ _ from C3.out).mono ?_
      rintro e w4 ⟨a4, c4, rfl, hd1, hd2, hrow4, f4⟩
      have F4 := Lib.hid (HW3.out.fr.then_ f4 fun _ _ h => h)
      have HR4 := Lib.hid (HR3.out.keep f4 fun _ _ h => h)
      have HA4 := Lib.hid hrow4
      have hpr : (p ++ r).length = n + m := by rw [List.length_append, ← Hn.out, HB.out]
      rw [hpr] at hd1 HA4 ⊢
      have Hpr := Lib.hid hpr
      unfold maxLen at hd2
      have C5 := Lib.hid (copyRef_c a1 n c1 p w4 Hn.out.symm (by omega) HR4.out.rd)
      clear f4 hrow4 hpr C3 HW3 HR3
      go_wp2_with fail
      refine (show Calls _ _ _ _ _ from C5.out).mono ?_
      rintro e w5 ⟨v5, rfl, hrow5, f5⟩
      obtain ⟨v6, w6, hrun, hrow6, f6⟩ := hrow5.append a0 m cap0 r HB.out (HR.out.keep (F4.out.then_ f5 fun _ _ h => h)) (by have := Hn.out; omega)
      obtain ⟨a6, c6, rfl, _, _, hin6⟩ := hrow6.form
      have F6 := Lib.hid ((F4.out.then_ f5 fun _ _ h => h).then_ f6 fun k hk h => by
        have := F4.out.size
        have := f5.size
        simp [Gr, No] at h
        omega)
      have HA6 := Lib.hid ((HA4.out.keep f5 fun _ _ h => h).keep f6 fun k hk h => by
        simp [Gr, No] at hk h
        omega)
      have C6 := Lib.hid (same_yes Hpr.out Hpr.out hin6.rd HA6.out.rd rfl (cap := c6) (cap' := c4))
      rw [Hpr.out] at hrun
      have HRUN := Lib.hid hrun
      clear hrun hrow5 f5 hrow6 f6 hin6 C5
      go_wp2_with (at_builtin; refine wpList_append_runG rfl _ _ 25 rfl rfl rfl HRUN.out ?_)
      refine (show Calls _ _ _ _ _ from C6.out).mono ?_
      rintro e w7 ⟨rfl, rfl⟩
      have C7 := Lib.hid (newr_c a4 (n + m) c4 (p ++ r) w6 Hpr.out (by omega) HA6.out.rd)
      have hnm : (n : Int) + (m : Int) ≤ 1040 := by omega
      clear HRUN C6 HA4 HR4 HR2 HA6
      go_wp2_with fail
      refine (show Calls _ _ _ _ _ from C7.out).mono ?_
      rintro e w7 ⟨R, T, rfl, hrr, f7, hR, _⟩
      have F7 := Lib.hid (F6.out.then_ f7 fun _ _ h => h)
      have HRR : Hid (w.heap.size ≤ R) := Lib.hid (Nat.le_trans F6.out.size hR)
      have HQ : Hid (Rr w7 R T (encs (l.drop 0) ++ r, false)) := by
        rw [List.drop_zero, ← HPe.out]
        exact Lib.hid hrr
      clear f7 hR hrr C7 F4 F6 HW HW2 hnm
      go_wp2_with fail
      go_loopw [76] (fun i wr => ∃ (k : Nat), i = .int .i64 k ∧ k ≤ len ∧ Fr No w wr ∧ Rr wr R T (encs (l.drop k) ++ r, false)) (fun i _ => len - (intOf i).toNat)
      case atStart => exact ⟨0, rfl, Nat.zero_le _, F7.out, HQ.out⟩
      case round =>
        obtain ⟨j, rfl, hj, hfr, hq⟩ := hrel
        clear F7 HQ
        have HF := Lib.hid hfr
        have HQ := Lib.hid hq
        clear hfr hq
        by_cases hlt : j < len
        · have hkl : j < l.length := by rw [HL.out]; exact hlt
          obtain ⟨b, o, rfl, hx⟩ := HI.out (by omega)
          obtain ⟨c0, wf⟩ := hx j l[j] (List.getElem?_eq_getElem hkl)
          have c0 := HF.out.cell c0 (fun h => h)
          have HX : Hid (l[j]? = some l[j]) := Lib.hid (List.getElem?_eq_getElem hkl)
          generalize l[j] = x at c0 wf HX
          have hx := wf_i64 wf
          obtain ⟨y, rfl⟩ := Int.eq_ofNat_of_zero_le (HPos.out j x HX.out)
          have C := rnum_c wr R T _ HQ.out
          rw [drop_more l j _ HX.out, encs_cons, Int.toNat_natCast, List.append_assoc, numS_enc y _ (by omega)] at C
          have C := Lib.hid C
          clear wf
          go_wp2_with fail
          refine (show Calls _ _ _ _ _ from C.out).mono ?_
          rintro e w8 ⟨rfl, hr8, f8⟩
          have F8 := Lib.hid (HF.out.new1 f8 HRR.out)
          have HR8 := Lib.hid hr8
          clear C hr8 f8
          go_wp2_with fail
          go_roundw
          case rel => exact ⟨j + 1, by go_num, by omega, F8.out, HR8.out⟩
          case measure => simp [intOf]; omega
        · have hj' : j = len := by omega
          have hq : Rr wr R T (r, false) := by
            have h := HQ.out
            rw [List.drop_eq_nil_of_le (by rw [HL.out]; omega), encs_nil, List.nil_append] at h
            exact h
          have C1 := Lib.hid (rbad_c wr R T _ hq)
          have C2 := rleft_c wr R T _ hq
          rw [show (((r, false) : St).1.length : Int) = (m : Int) by rw [← HB.out]] at C2
          have C2 := Lib.hid C2
          have C3 := rraw_c (m : Int) wr R T _ hq (by omega)
          have e3 := rawS_enc r []
          rw [List.append_nil, HB.out] at e3
          rw [e3] at C3
          simp only at C3
          have C3 := Lib.hid C3
          have Hj := Lib.hid hj'
          clear hq e3 hj'
          go_wp2_with fail
          refine (show Calls _ _ _ _ _ from C1.out).mono ?_
          rintro e w8 ⟨rfl, rfl⟩
          go_wp2_with fail
          refine (show Calls _ _ _ _ _ from C2.out).mono ?_
          rintro e w8 ⟨rfl, rfl⟩
          go_wp2_with fail
          refine (show Calls _ _ _ _ _ from C3.out).mono ?_
          rintro e w8 ⟨a8, c8, rfl, hin8, hr8, f8⟩
          have F8 := Lib.hid (HF.out.new1 f8 HRR.out)
          have C4 := Lib.hid (same_yes HB.out HB.out hin8.rd (HR.out.keep F8.out) rfl (cap := c8) (cap' := cap0))
          have C5 := rdone_c w8 R T _ hr8
          rw [done0] at C5
          have C5 := Lib.hid C5
          rw [HB.out]
          clear hin8 hr8 f8 C1 C2 C3
          go_wp2_with fail
          refine (show Calls _ _ _ _ _ from C4.out).mono ?_
          rintro e w9 ⟨rfl, rfl⟩
          go_wp2_with fail
          refine (show Calls _ _ _ _ _ from C5.out).mono ?_
          rintro e w9 ⟨rfl, rfl⟩
          go_wp2_with fail
          refine (awake_c w8).mono ?_
          rintro e w9 ⟨rfl, f⟩
          have F := Lib.hid (F8.out.then_ f fun _ _ h => h)
          clear f
          go_wp2_with fail
          go_ret
          exact ⟨rfl, F.out⟩

set_option maxRecDepth 40000 in
set_option maxHeartbeats 800000 in
theorem wireOrder_out (w : World) (a : Option Addr) (cap n : Nat) (a0 : Option Addr) (cap0 m : Nat) (hn : n ≤ maxLen) (hm : m ≤ maxLen) (h : 60 < n ∨ 500 < m) :
    Calls Try.prog 7 #[.slice a n cap, .slice a0 m cap0] w fun e w' => e = .returned (.bool true) ∧ Fr No w w' := by
  unfold maxLen at hm hn
  by_cases h1 : 60 < n
  · go_enter Try.func7, Try.ntmps7
    go_wp2_with fail
    refine (awake_c w).mono ?_
    rintro e w6 ⟨rfl, f⟩
    have F := Lib.hid f
    clear f
    go_wp2_with fail
    go_ret
    exact ⟨rfl, F.out⟩
  · have h2 : 500 < m := h.elim (fun h => absurd h h1) id
    clear h
    go_enter Try.func7, Try.ntmps7
    go_wp2_with fail
    refine (awake_c w).mono ?_
    rintro e w6 ⟨rfl, f⟩
    have F := Lib.hid f
    clear f
    go_wp2_with fail
    go_ret
    exact ⟨rfl, F.out⟩

theorem wireOrder_walk (w : World) (a0 : Option Addr) (c0 : Nat) (l : List Int) (hc0 : l.length ≤ c0) (hm0 : c0 ≤ maxLen) (rd0 : Ints w a0 l) (a1 : Option Addr) (c1 : Nat) (r : List UInt8) (hc1 : r.length ≤ c1) (hm1 : c1 ≤ maxLen) (rd1 : Rd w a1 r) :
    Calls Try.prog 7 #[.slice a0 l.length c0, .slice a1 r.length c1] w fun e w' => e = .returned (.bool true) ∧ Below w.heap.size w w' := by
  refine Calls.mono (R := fun e w' => e = .returned (.bool true) ∧ Fr No w w') ?_ fun e w' ⟨he, hf⟩ => ⟨he, hf.below (Nat.le_refl _) fun k h => h.elim⟩
  by_cases h : 60 < l.length ∨ 500 < r.length
  · exact wireOrder_out w a0 c0 _ a1 c1 _ (by omega) (by omega) h
  · exact wireOrder_go w a0 c0 l (by omega) rd0 a1 c1 r (by omega) rd1
end Go.Proofs.Ytpjfdhgkclnagaa
