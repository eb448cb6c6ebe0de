/-
  The walk of the statement BloomBack.
-/
import Derived.Test.YtbglicndccdaiaaDoorBlX
namespace Go.Proofs.YtbglicndccdaiaaDoor
set_option linter.unusedVariables false
set_option linter.unusedSimpArgs false
open Go.RowKit

theorem Texts.key2 {W w : World} {a : Option Addr} {l : List Tx} (h : Texts W a l) (hs : ∀ (j : Nat) (x : Tx), l[j]? = some x → x.b.length ≤ 200) (f : Fr No W w) {i : Nat} (hi : i < l.length) :
    ∃ b o ka kn kc, a = some ⟨b, o, none⟩ ∧ w.cell? ⟨b, o + i, none⟩ = some (.slice ka kn kc) ∧ (kb l i).length = kn ∧ kn ≤ 200 ∧ kn ≤ kc ∧ Rd W ka (kb l i) := by
  obtain ⟨b, o, ha, hx⟩ := h (by omega)
  have e := List.getElem?_eq_getElem hi
  have hx := hx i l[i] e
  have hk : kb l i = l[i].b := by simp [kb, List.getD, e]
  exact ⟨b, o, l[i].a, _, l[i].c, ha, (hx.keep f).c0, by rw [hk], hs i _ e, hx.le, by rw [hk]; exact hx.rd⟩
theorem sizeB_8 (k e : Nat) : 8 ≤ sizeB k e := by unfold sizeB; omega
set_option maxRecDepth 20000 in
set_option maxHeartbeats 2000000 in
theorem bloomBack_in (W : World) (ht : Tab W) (a : Option Addr) (cap : Nat) (l : List Tx) (hm : l.length ≤ maxLen) (hi : Texts W a l) (hsm : smallK l = true)
    (a' : Option Addr) (cap' : Nat) (l' : List Tx) (hm' : l'.length ≤ maxLen) (hi' : Texts W a' l') (hsm' : smallK l' = true) (e : Nat) (he1 : 1 ≤ e) (he2 : e ≤ 32) :
    Calls Tryd.prog 7 #[.slice a l.length cap, .slice a' l'.length cap', .int .i64 (e : Int)] W (Yes W) := by
  obtain ⟨h60, h200⟩ := smallK_yes l hsm
  obtain ⟨h60', h200'⟩ := smallK_yes l' hsm'
  have CS := small_c a cap l W hm hi
  rw [hsm] at CS
  have CS := Lib.hid CS
  have CS' := small_c a' cap' l' W hm' hi'
  rw [hsm'] at CS'
  have CS' := Lib.hid CS'
  have CN := Lib.hid (fun w => new_c l.length e (by omega) he1 he2 w)
  have HK := Lib.hid (fun w (f : Fr No W w) i (hl : i < l.length) => hi.key h200 f hl)
  have HK' := Lib.hid (fun w (f : Fr No W w) i (hl : i < l'.length) => hi'.key2 h200' f hl)
  have HT := Lib.hid ht
  have hN8 := sizeB_8 l.length e
  have hN1 := sizeB_le l.length e (by omega) he2
  obtain ⟨hp1, hp2⟩ := probF_pos e he2
  have CA := Lib.hid (fun w (f : Fr No W w) => awake_c w (ht.keep f))
  obtain ⟨n, hn⟩ : ∃ n, l.length = n := ⟨_, rfl⟩
  obtain ⟨n', hn'⟩ : ∃ n', l'.length = n' := ⟨_, rfl⟩
  rw [hn] at CS CN HK hN8 hN1 h60 ⊢
  rw [hn'] at CS' HK' h60' ⊢
  clear hm hi hsm ht h200 hm' hi' hsm' h200'
  generalize sizeB n e = N at *
  generalize probF e = p at *
  clear hn hn'
  have hpp := toNat_of p (by omega)
  go_enter Tryd.func7, Tryd.ntmps7
  go_wp2_with fail
  refine (show Calls _ _ _ _ _ from CS.out).mono ?_
  rintro e w1 ⟨rfl, rfl⟩
  go_wp2_with fail
  refine (show Calls _ _ _ _ _ from CS'.out).mono ?_
  rintro e w1 ⟨rfl, rfl⟩
  go_wp2_with fail
  refine (CN.out _).mono ?_
  rintro e w1 ⟨b1, g1, rfl, hfil1, hf1, hb1, hg1⟩
  have HF1 := Lib.hid hf1
  have HFIL1 := Lib.hid hfil1
  have HPP := Lib.hid hpp
  clear hf1 hfil1 CN CS CS' hpp
  go_wp2_with fail
  go_loopw [48] (fun i wr => ∃ k : Nat, i = .int .i64 k ∧ k ≤ n ∧ Fr No W wr ∧ (∃ bs, Fil wr b1 g1 bs p ∧ bs.length = N)) (fun i _ => n - (intOf i).toNat)
  case atStart => exact ⟨0, rfl, Nat.zero_le _, HF1.out, ⟨_, HFIL1.out, by simp⟩⟩
  case round =>
    obtain ⟨k, rfl, hk, hfr, ⟨bs, x1, y1⟩⟩ := hrel
    by_cases h1 : k < n
    · obtain ⟨tb, to, ka, kn, kc, rfl, q1, hl1, hl2, hl3, hrd⟩ := HK.out _ hfr k h1
      have C1 := Lib.hid (add_c b1 g1 bs p ka kn kc (kb l k) _ x1 hl1 (by omega) hrd (HT.out.keep hfr) (by omega) (by omega) (by omega))
      have HFr := Lib.hid hfr
      have Y1 := Lib.hid y1
      clear hrd x1 y1 hfr hl1
      go_wp2_with fail
      refine (show Calls _ _ _ _ _ from C1.out).mono ?_
      rintro e w3 ⟨rfl, hfil3, hf3⟩
      have HF3 := Lib.hid (HFr.out.own hf3 hg1)
      have HFIL3 := Lib.hid hfil3
      clear hfil3 hf3 C1
      go_wp2_with fail
      go_roundw
      case rel => exact ⟨k + 1, by simp, by omega, HF3.out, ⟨_, HFIL3.out, by rw [putAll_length]; exact Y1.out⟩⟩
      case measure => simp [intOf]; omega
    · have C1 := Lib.hid (fbytes_c b1 g1 bs p _ x1 (by omega) (by omega))
      have X1 := Lib.hid x1
      have Y1 := Lib.hid y1
      have HFr := Lib.hid hfr
      have hkn : k = n := by omega
      clear x1 y1 hfr
      go_wp2_with fail
      refine (show Calls _ _ _ _ _ from C1.out).mono ?_
      rintro e w3 ⟨v1, rfl, hrow1, hf3⟩
      have HF3 := Lib.hid (HFr.out.trans hf3)
      have X3 := Lib.hid (X1.out.keep hf3 (fun h => h) (fun h => h))
      obtain ⟨s1, k1, rfl, hk1, hk2, hin1⟩ := hrow1.form
      have hlen : (UInt8.ofNat p :: bs).length = N + 1 := by rw [List.length_cons, Y1.out]
      rw [hlen] at hk1 ⊢
      have C2 := parse_c s1 (N + 1) k1 (UInt8.ofNat p) bs w3 hlen hk1 hk2 (by omega) (by omega) (by rw [HPP.out]; omega) (by rw [HPP.out]; omega) hin1.rd
      rw [HPP.out] at C2
      have C2 := Lib.hid C2
      clear hrow1 hin1 hf3 C1 hlen hk1 hk2 X1
      go_wp2_with fail
      refine (show Calls _ _ _ _ _ from C2.out).mono ?_
      rintro e w4 ⟨b2, g2, rfl, hfil4, hf4, hb2, hg2⟩
      have hlt := X3.out.lt
      have hsz := HF3.out.size
      have HF4 := Lib.hid (HF3.out.trans hf4)
      have X4 := Lib.hid (X3.out.keep hf4 (fun h => h) (fun h => h))
      have Z4 := Lib.hid hfil4
      have b12 : b1 ≠ g2 := by omega
      have g12 : g1 ≠ g2 := by omega
      have b21 : b2 ≠ g1 := by omega
      have hg2W : W.heap.size ≤ g2 := by omega
      have CSE1 := set_c b1 g1 bs p w4 X4.out (by rw [Y1.out]; omega)
      have CSE2 := set_c b2 g2 bs p w4 hfil4 (by rw [Y1.out]; omega)
      have CP1 := Lib.hid (probes_c b1 g1 bs p w4 X4.out)
      have CP2 := Lib.hid (probes_c b2 g2 bs p w4 hfil4)
      clear hf4 hfil4 C2 X3 hlt hsz
      have HSB : ∃ sb, setN bs = sb := ⟨_, rfl⟩
      obtain ⟨sb, hsb⟩ := HSB
      rw [hsb] at CSE1 CSE2
      have CSE1 := Lib.hid CSE1
      have CSE2 := Lib.hid CSE2
      clear hsb
      have n1 : ((sb : Int) != (sb : Int)) = false := by simp
      have n2 : ((p : Int) != (p : Int)) = false := by simp
      go_wp2_with fail
      refine (show Calls _ _ _ _ _ from CSE2.out).mono ?_
      rintro e w5 ⟨rfl, rfl⟩
      go_wp2_with fail
      refine (show Calls _ _ _ _ _ from CSE1.out).mono ?_
      rintro e w5 ⟨rfl, rfl⟩
      go_wp2_with fail
      refine (show Calls _ _ _ _ _ from CP2.out).mono ?_
      rintro e w5 ⟨rfl, rfl⟩
      go_wp2_with fail
      refine (show Calls _ _ _ _ _ from CP1.out).mono ?_
      rintro e w5 ⟨rfl, rfl⟩
      clear CSE1 CSE2 CP1 CP2
      go_wp2_with fail
      clear n1 n2
      go_loopw [84] (fun i wr' => ∃ k : Nat, i = .int .i64 k ∧ k ≤ n' ∧ Fr No W wr' ∧ (∃ bs, Fil wr' b1 g1 bs p ∧ Fil wr' b2 g2 bs p ∧ bs.length = N)) (fun i _ => n' - (intOf i).toNat)
      case atStart => exact ⟨0, rfl, Nat.zero_le _, HF4.out, ⟨bs, X4.out, Z4.out, Y1.out⟩⟩
      case round =>
        obtain ⟨k', rfl, hk', hfr, ⟨bs2, x1, x2, y2⟩⟩ := hrel
        by_cases h2 : k' < n'
        · obtain ⟨tb, to, ka, kn, kc, rfl, q1, hl1, hl2, hl3, hrd⟩ := HK'.out _ hfr k' h2
          have C1 := Lib.hid (has_c b1 g1 bs2 p ka kn kc (kb l' k') _ x1 hl1 (by omega) (hrd.keep hfr) (HT.out.keep hfr) (by omega) (by omega) (by omega))
          have HX1 := Lib.hid x1
          have HX2 := Lib.hid x2
          have Y2 := Lib.hid y2
          have HFr := Lib.hid hfr
          have HRD := Lib.hid hrd
          have HL1 := Lib.hid hl1
          clear x1 x2 y2 hfr hrd hl1
          go_wp2_with fail
          refine (show Calls _ _ _ _ _ from C1.out).mono ?_
          rintro e w6 ⟨rfl, hf6⟩
          have HF6 := Lib.hid (HFr.out.trans hf6)
          have X16 := Lib.hid (HX1.out.keep hf6 (fun h => h) (fun h => h))
          have X26 := Lib.hid (HX2.out.keep hf6 (fun h => h) (fun h => h))
          have C2 := has_c b2 g2 bs2 p ka kn kc (kb l' k') _ X26.out HL1.out (by omega) (HRD.out.keep HF6.out) (HT.out.keep HF6.out) (by rw [Y2.out]; omega) (by rw [Y2.out]; omega) (by omega)
          obtain ⟨hv, hhv⟩ : ∃ hv, hasB bs2 (places (kb l' k') (8 * bs2.length) p) = hv := ⟨_, rfl⟩
          rw [hhv] at C2 ⊢
          have C2 := Lib.hid C2
          clear hf6 C1 hhv
          have n1 : (hv != hv) = false := by simp
          go_wp2_with fail
          refine (show Calls _ _ _ _ _ from C2.out).mono ?_
          rintro e w7 ⟨rfl, hf7⟩
          have HF7 := Lib.hid (HF6.out.trans hf7)
          have X17 := Lib.hid (X16.out.keep hf7 (fun h => h) (fun h => h))
          have X27 := Lib.hid (X26.out.keep hf7 (fun h => h) (fun h => h))
          have C3 := Lib.hid (add_c b1 g1 bs2 p ka kn kc (kb l' k') _ X17.out HL1.out (by omega) (HRD.out.keep HF7.out) (HT.out.keep HF7.out) (by rw [Y2.out]; omega) (by rw [Y2.out]; omega) (by omega))
          clear hf7 C2 X16 X26 HF6
          go_wp2_with fail
          clear n1
          refine (show Calls _ _ _ _ _ from C3.out).mono ?_
          rintro e w8 ⟨rfl, hfil8, hf8⟩
          have HF8 := Lib.hid (HF7.out.own hf8 hg1)
          have X18 := Lib.hid hfil8
          have X28 := Lib.hid (X27.out.keep hf8 (fun e => b21 e) (fun e => g12 e.symm))
          have C4 := Lib.hid (add_c b2 g2 bs2 p ka kn kc (kb l' k') _ X28.out HL1.out (by omega) (HRD.out.keep HF8.out) (HT.out.keep HF8.out) (by rw [Y2.out]; omega) (by rw [Y2.out]; omega) (by omega))
          clear hfil8 hf8 C3 X17 X27 HF7
          go_wp2_with fail
          refine (show Calls _ _ _ _ _ from C4.out).mono ?_
          rintro e w9 ⟨rfl, hfil9, hf9⟩
          have HF9 := Lib.hid (HF8.out.own hf9 hg2W)
          have FINI := Lib.hid (show ∃ bs, Fil w9 b1 g1 bs p ∧ Fil w9 b2 g2 bs p ∧ bs.length = N from ⟨_, X18.out.keep hf9 (fun e => b12 e) (fun e => g12 e), hfil9, by rw [putAll_length]; exact Y2.out⟩)
          clear hfil9 hf9 C4 X18 X28 HF8
          go_wp2_with fail
          go_roundw
          case rel => exact ⟨k' + 1, by simp, by omega, HF9.out, FINI.out⟩
          case measure => simp [intOf]; omega
        · have C1 := Lib.hid (fbytes_c b1 g1 bs2 p _ x1 (by omega) (by omega))
          have X2 := Lib.hid x2
          have Y2 := Lib.hid y2
          have HFr := Lib.hid hfr
          have hkn' : k' = n' := by omega
          clear x1 x2 y2 hfr
          go_wp2_with fail
          refine (show Calls _ _ _ _ _ from C1.out).mono ?_
          rintro e w5 ⟨v1, rfl, hrow1, hf5⟩
          have HF5 := Lib.hid (HFr.out.trans hf5)
          have C2 := Lib.hid (fbytes_c b2 g2 bs2 p _ (X2.out.keep hf5 (fun h => h) (fun h => h)) (by omega) (by rw [Y2.out]; omega))
          obtain ⟨s1, k1, rfl, _, _, hin1⟩ := hrow1.form
          have R1 := Lib.hid hin1.rd
          obtain ⟨len1, hlen1⟩ : ∃ len1, (UInt8.ofNat p :: bs2).length = len1 := ⟨_, rfl⟩
          rw [hlen1]
          have HL1 := Lib.hid hlen1
          clear hrow1 hin1 hf5 C1 hlen1
          go_wp2_with fail
          refine (show Calls _ _ _ _ _ from C2.out).mono ?_
          rintro e w6 ⟨v2, rfl, hrow2, hf6⟩
          have HF6 := Lib.hid (HF5.out.trans hf6)
          obtain ⟨s2, k2, rfl, _, _, hin2⟩ := hrow2.form
          rw [HL1.out]
          have C3 := Lib.hid (same_yes (w := w6) (a := s1) (a' := s2) (len := len1) (cap := k1) (len' := len1) (cap' := k2) HL1.out HL1.out (R1.out.keep hf6) hin2.rd rfl)
          clear hrow2 hin2 hf6 C2
          go_wp2_with fail
          refine (show Calls _ _ _ _ _ from C3.out).mono ?_
          rintro e w7 ⟨rfl, rfl⟩
          go_wp2_with fail
          refine (CA.out _ HF6.out).mono ?_
          rintro e w8 ⟨rfl, hf8⟩
          go_wp2_with fail
          go_ret
          exact ⟨rfl, HF6.out.trans hf8⟩
set_option maxRecDepth 20000 in
set_option maxHeartbeats 1600000 in
theorem bloomBack_no (W : World) (ht : Tab W) (a : Option Addr) (cap : Nat) (l : List Tx) (hm : l.length ≤ maxLen) (hi : Texts W a l) (hsm : smallK l = true)
    (a' : Option Addr) (cap' : Nat) (l' : List Tx) (hm' : l'.length ≤ maxLen) (hi' : Texts W a' l') (hsm' : smallK l' = true) (e : Int) (he0 : -9223372036854775808 ≤ e) (he1 : e ≤ 9223372036854775807) (he : e < 1 ∨ 32 < e) :
    Calls Tryd.prog 7 #[.slice a l.length cap, .slice a' l'.length cap', .int .i64 e] W (Yes W) := by
  obtain ⟨h60, h200⟩ := smallK_yes l hsm
  have CS := small_c a cap l W hm hi
  rw [hsm] at CS
  have CS := Lib.hid CS
  have CS' := small_c a' cap' l' W hm' hi'
  rw [hsm'] at CS'
  have CS' := Lib.hid CS'
  have CN := Lib.hid (fun w => new_no (l.length : Int) e w (by omega) (by omega) he0 he1 (by omega))
  have CA := Lib.hid (awake_c W ht)
  obtain ⟨n, hn⟩ : ∃ n, l.length = n := ⟨_, rfl⟩
  obtain ⟨n', hn'⟩ : ∃ n', l'.length = n' := ⟨_, rfl⟩
  rw [hn] at CS CN h60 ⊢
  rw [hn'] at CS' ⊢
  clear hm hi hsm ht h200 hn hm' hi' hsm' hn'
  have hway : decide (e < 1) = true ∨ (decide (e < 1) = false ∧ decide (32 < e) = true) := by
    simp only [decide_eq_true_eq, decide_eq_false_iff_not]
    omega
  clear he
  rcases hway with d1 | ⟨d1, d2⟩
  all_goals
    go_enter Tryd.func7, Tryd.ntmps7
    go_wp2_with fail
    refine (show Calls _ _ _ _ _ from CS.out).mono ?_
    rintro e w1 ⟨rfl, rfl⟩
    go_wp2_with fail
    refine (show Calls _ _ _ _ _ from CS'.out).mono ?_
    rintro e w1 ⟨rfl, rfl⟩
    go_wp2_with fail
    refine (CN.out _).mono ?_
    rintro e w1 ⟨rfl, rfl⟩
    go_wp2_with fail
    refine (show Calls _ _ _ _ _ from CA.out).mono ?_
    rintro e w5 ⟨rfl, hf5⟩
    go_wp2_with fail
    go_ret
    exact ⟨rfl, hf5⟩
set_option maxHeartbeats 800000 in
theorem bloomBack_walk (W : World) (ht : Tab W) (a : Option Addr) (cap : Nat) (l : List Tx) (hc : l.length ≤ cap) (hm : cap ≤ maxLen) (hi : Texts W a l)
    (a' : Option Addr) (cap' : Nat) (l' : List Tx) (hc' : l'.length ≤ cap') (hm' : cap' ≤ maxLen) (hi' : Texts W a' l') (x1 : Int) (wf1 : (Lit.int .i64 x1).wf = true) :
    Calls Tryd.prog 7 #[.slice a l.length cap, .slice a' l'.length cap', .int .i64 x1] W fun e W' => e = .returned (.bool true) ∧ Below W.heap.size W W' := by
  obtain ⟨a1, a2⟩ := wf64 wf1
  refine Calls.mono (R := Yes W) ?_ fun e w' h => h.post
  have hml : l.length ≤ maxLen := Nat.le_trans hc hm
  have hml' : l'.length ≤ maxLen := Nat.le_trans hc' hm'
  cases hsm : smallK l with
  | false =>
    have CS := small_c a cap l W hml hi
    rw [hsm] at CS
    have CS := Lib.hid CS
    have CA := Lib.hid (awake_c W ht)
    generalize l.length = n at *
    generalize l'.length = n' at *
    clear ht hi hsm hi'
    go_enter Tryd.func7, Tryd.ntmps7
    go_wp2_with fail
    refine (show Calls _ _ _ _ _ from CS.out).mono ?_
    rintro e w1 ⟨rfl, rfl⟩
    go_wp2_with fail
    refine (show Calls _ _ _ _ _ from CA.out).mono ?_
    rintro e w3 ⟨rfl, hf3⟩
    go_wp2_with fail
    go_ret
    exact ⟨rfl, hf3⟩
  | true =>
    cases hsm' : smallK l' with
    | false =>
      have CS := small_c a cap l W hml hi
      rw [hsm] at CS
      have CS := Lib.hid CS
      have CS' := small_c a' cap' l' W hml' hi'
      rw [hsm'] at CS'
      have CS' := Lib.hid CS'
      have CA := Lib.hid (awake_c W ht)
      generalize l.length = n at *
      generalize l'.length = n' at *
      clear ht hi hsm hi' hsm'
      go_enter Tryd.func7, Tryd.ntmps7
      go_wp2_with fail
      refine (show Calls _ _ _ _ _ from CS.out).mono ?_
      rintro e w1 ⟨rfl, rfl⟩
      go_wp2_with fail
      refine (show Calls _ _ _ _ _ from CS'.out).mono ?_
      rintro e w1 ⟨rfl, rfl⟩
      go_wp2_with fail
      refine (show Calls _ _ _ _ _ from CA.out).mono ?_
      rintro e w3 ⟨rfl, hf3⟩
      go_wp2_with fail
      go_ret
      exact ⟨rfl, hf3⟩
    | true =>
      by_cases hin : 1 ≤ x1 ∧ x1 ≤ 32
      · obtain ⟨e, rfl⟩ := Int.eq_ofNat_of_zero_le (show 0 ≤ x1 by omega)
        exact bloomBack_in W ht a cap l hml hi hsm a' cap' l' hml' hi' hsm' e (by omega) (by omega)
      · exact bloomBack_no W ht a cap l hml hi hsm a' cap' l' hml' hi' hsm' x1 a1 a2 (by omega)
end Go.Proofs.YtbglicndccdaiaaDoor
