/-
  The walk of the statement BloomOrder; what the laws over lists of keys share.
-/
import Derived.Test.YtbglicndccdaiaaDoorBlV
namespace Go.Proofs.YtbglicndccdaiaaDoor
set_option linter.unusedVariables false
set_option linter.unusedSimpArgs false
open Go.RowKit

def kb (l : List Tx) (i : Nat) : List UInt8 := (l.getD i ⟨none, 0, []⟩).b
theorem Texts.key {W w : World} {a : Option Addr} {l : List Tx} (h : Texts W a l) (hs : ∀ (j : Nat) (x : Tx), l[j]? = some x → x.b.length ≤ 200) (f : Fr No W w) {i : Nat} (hi : i < l.length) :
    ∃ b o ka kn kc, a = some ⟨b, o, none⟩ ∧ w.cell? ⟨b, o + i, none⟩ = some (.slice ka kn kc) ∧ (kb l i).length = kn ∧ kn ≤ 200 ∧ kn ≤ kc ∧ Rd w ka (kb l i) := by
  obtain ⟨b, o, ha, hx⟩ := h (by omega)
  have e := List.getElem?_eq_getElem hi
  have hx := (hx i l[i] e).keep f
  have hk : kb l i = l[i].b := by simp [kb, List.getD, e]
  exact ⟨b, o, l[i].a, _, l[i].c, ha, hx.c0, by rw [hk], hs i _ e, hx.le, by rw [hk]; exact hx.rd⟩
/-- A filter's bits are those of the first k keys. -/
def OrdF (l : List Tx) (M p k : Nat) (bs : List UInt8) : Prop := ∀ j, bitB bs j = true ↔ ∃ i, i < k ∧ j ∈ places (kb l i) M p
theorem OrdF.zero (l : List Tx) (M p N : Nat) : OrdF l M p 0 (List.replicate N 0) := fun j => by
  rw [bitB_zero]
  exact ⟨fun h => (by cases h), fun ⟨i, h, _⟩ => absurd h (Nat.not_lt_zero i)⟩
theorem OrdF.step {l : List Tx} {p k : Nat} {bs : List UInt8} (h : OrdF l (8 * bs.length) p k bs) (h0 : 0 < bs.length) : OrdF l (8 * bs.length) p (k + 1) (putAll bs (places (kb l k) (8 * bs.length) p)) := fun j => by
  rw [bitB_putAll _ _ _ (places_lt _ _ _ (by omega)), Bool.or_eq_true, decide_eq_true_eq, h j]
  constructor
  · rintro (⟨i, hi, hj⟩ | hj)
    · exact ⟨i, by omega, hj⟩
    · exact ⟨k, by omega, hj⟩
  · rintro ⟨i, hi, hj⟩
    rcases Nat.lt_or_ge i k with h1 | h1
    · exact .inl ⟨i, h1, hj⟩
    · obtain rfl : i = k := by omega
      exact .inr hj
/-- .. those of the last k keys, and of the first one. -/
def OrdG (l : List Tx) (M p n k : Nat) (bs : List UInt8) : Prop := ∀ j, bitB bs j = true ↔ ((∃ i, i < k ∧ j ∈ places (kb l (n - 1 - i)) M p) ∨ (0 < k ∧ j ∈ places (kb l 0) M p))
theorem OrdG.zero (l : List Tx) (M p n N : Nat) : OrdG l M p n 0 (List.replicate N 0) := fun j => by
  rw [bitB_zero]
  exact ⟨fun h => (by cases h), fun h => by
    rcases h with ⟨i, h, _⟩ | ⟨h, _⟩
    · exact absurd h (Nat.not_lt_zero i)
    · exact absurd h (Nat.lt_irrefl 0)⟩
theorem OrdG.step {l : List Tx} {p n k : Nat} {bs : List UInt8} (h : OrdG l (8 * bs.length) p n k bs) (h0 : 0 < bs.length) :
    OrdG l (8 * bs.length) p n (k + 1) (putAll (putAll bs (places (kb l (n - 1 - k)) (8 * bs.length) p)) (places (kb l 0) (8 * bs.length) p)) := fun j => by
  rw [bitB_putAll _ _ _ (by rw [putAll_length]; exact places_lt _ _ _ (by omega)), bitB_putAll _ _ _ (places_lt _ _ _ (by omega)), Bool.or_eq_true, Bool.or_eq_true, decide_eq_true_eq, decide_eq_true_eq, h j]
  constructor
  · rintro (((⟨i, hi, hj⟩ | ⟨_, hj⟩) | hj) | hj)
    · exact .inl ⟨i, by omega, hj⟩
    · exact .inr ⟨by omega, hj⟩
    · exact .inl ⟨k, by omega, hj⟩
    · exact .inr ⟨by omega, hj⟩
  · rintro (⟨i, hi, hj⟩ | ⟨_, hj⟩)
    · rcases Nat.lt_or_ge i k with h1 | h1
      · exact .inl (.inl (.inl ⟨i, h1, hj⟩))
      · obtain rfl : i = k := by omega
        exact .inl (.inr hj)
    · exact .inr hj
theorem ord_same {l : List Tx} {M p n : Nat} {x y : List UInt8} (hx : OrdF l M p n x) (hy : OrdG l M p n n y) (hl : x.length = y.length) : x = y := by
  apply bytes_ext x y hl
  intro j _
  rw [Bool.eq_iff_iff, hx j, hy j]
  constructor
  · rintro ⟨i, hi, hj⟩
    exact .inl ⟨n - 1 - i, by omega, by rw [show n - 1 - (n - 1 - i) = i by omega]; exact hj⟩
  · rintro (⟨i, hi, hj⟩ | ⟨h0, hj⟩)
    · exact ⟨n - 1 - i, by omega, hj⟩
    · exact ⟨0, h0, hj⟩
theorem sizeB_pos (k e : Nat) : 0 < sizeB k e := by unfold sizeB; omega
theorem sizeB_le (k e : Nat) (hk : k ≤ 65536) (he : e ≤ 32) : sizeB k e ≤ 300000 := by
  have : k * e ≤ 65536 * 32 := Nat.mul_le_mul hk he
  unfold sizeB
  omega
theorem probF_pos (e : Nat) (he : e ≤ 32) : 1 ≤ probF e ∧ probF e ≤ 30 := by unfold probF; omega
set_option maxRecDepth 20000 in
set_option maxHeartbeats 2000000 in
theorem bloomOrder_in (W : World) (ht : Tab W) (a : Option Addr) (cap : Nat) (l : List Tx) (hm : l.length ≤ maxLen) (hi : Texts W a l) (hsm : smallK l = true) (e : Nat) (he1 : 1 ≤ e) (he2 : e ≤ 32) :
    Calls Tryd.prog 8 #[.slice a l.length cap, .int .i64 (e : Int)] W (Yes W) := by
  obtain ⟨h60, h200⟩ := smallK_yes l hsm
  have CS := small_c a cap l W hm hi
  rw [hsm] at CS
  have CS := Lib.hid CS
  have CN := Lib.hid (fun w => new_c l.length e (by omega) he1 he2 w)
  have HK := Lib.hid (fun w (f : Fr No W w) i (hl : i < l.length) => hi.key h200 f hl)
  have HT := Lib.hid ht
  have hN0 := sizeB_pos l.length e
  have hN1 := sizeB_le l.length e (by omega) he2
  obtain ⟨hp1, hp2⟩ := probF_pos e he2
  have CA := Lib.hid (fun w (f : Fr No W w) => awake_c w (ht.keep f))
  obtain ⟨n, hn⟩ : ∃ n, l.length = n := ⟨_, rfl⟩
  rw [hn] at CS CN HK hN0 hN1 h60 ⊢
  clear hm hi hsm ht h200
  generalize sizeB n e = N at *
  generalize probF e = p at *
  clear hn
  go_enter Tryd.func8, Tryd.ntmps8
  go_wp2_with fail
  refine (show Calls _ _ _ _ _ from CS.out).mono ?_
  rintro e w1 ⟨rfl, rfl⟩
  go_wp2_with fail
  refine (CN.out _).mono ?_
  rintro e w1 ⟨b1, g1, rfl, hfil1, hf1, hb1, hg1⟩
  have HF1 := Lib.hid hf1
  have HFIL1 := Lib.hid hfil1
  clear hf1 hfil1
  go_wp2_with fail
  refine (CN.out _).mono ?_
  rintro e w2 ⟨b2, g2, rfl, hfil2, hf2, hb2, hg2⟩
  have hlt := HFIL1.out.lt
  have HF2 := Lib.hid (HF1.out.trans hf2)
  have HFIL2 := Lib.hid hfil2
  have HFIL1' := Lib.hid (HFIL1.out.keep hf2 (fun h => h) (fun h => h))
  have hsz := HF1.out.size
  clear hf2 hfil2 HF1 HFIL1 CN CS
  have b12 : b1 ≠ g2 := by omega
  have g12 : g1 ≠ g2 := by omega
  have b21 : b2 ≠ g1 := by omega
  have hg2W : W.heap.size ≤ g2 := by omega
  go_wp2_with fail
  go_loopw [51] (fun i wr => ∃ k : Nat, i = .int .i64 k ∧ k ≤ n ∧ Fr No W wr ∧ (∃ bs, Fil wr b1 g1 bs p ∧ bs.length = N ∧ OrdF l (8 * N) p k bs) ∧ (∃ bs, Fil wr b2 g2 bs p ∧ bs.length = N ∧ OrdG l (8 * N) p n k bs)) (fun i _ => n - (intOf i).toNat)
  case atStart => exact ⟨0, rfl, Nat.zero_le _, HF2.out, ⟨_, HFIL1'.out, by simp, OrdF.zero _ _ _ _⟩, ⟨_, HFIL2.out, by simp, OrdG.zero _ _ _ _ _⟩⟩
  case round =>
    obtain ⟨k, rfl, hk, hfr, ⟨bs1, x1, y1, z1⟩, ⟨bs2, x2, y2, z2⟩⟩ := hrel
    by_cases h1 : k < n
    · obtain ⟨tb, to, ka, kn, kc, rfl, q1, hl1, hl2, hl3, hrd⟩ := HK.out _ hfr k h1
      have C1 := Lib.hid (add_c b1 g1 bs1 p ka kn kc (kb l k) _ x1 hl1 (by omega) hrd (HT.out.keep hfr) (by omega) (by omega) (by omega))
      have z1' := z1
      rw [← y1] at z1'
      have Z1 := Lib.hid (z1'.step (by omega))
      have z2' := z2
      rw [← y2] at z2'
      have Z2 := Lib.hid (z2'.step (by omega))
      have e1 : (n : Int) - 1 - (k : Int) = ((n - 1 - k : Nat) : Int) := by omega
      have i1 : n - 1 - k < n := by omega
      have i0 : 0 < n := by omega
      obtain ⟨r, hr⟩ : ∃ r, n - 1 - k = r := ⟨_, rfl⟩
      rw [hr] at e1 i1 Z2
      have X2 := Lib.hid x2
      have Y1 := Lib.hid y1
      have Y2 := Lib.hid y2
      have HFr := Lib.hid hfr
      clear hrd z1 z1' z2 z2' x1 x2 y1 y2 hfr hr hl1
      go_wp2_with fail
      refine (show Calls _ _ _ _ _ from C1.out).mono ?_
      rintro e w3 ⟨rfl, hfil3, hf3⟩
      have HF3 := Lib.hid (HFr.out.own hf3 hg1)
      have X2' := Lib.hid (X2.out.keep hf3 (fun e => b21 e) (fun e => g12 e.symm))
      have HFIL3 := Lib.hid hfil3
      obtain ⟨tb', to', ka', kn', kc', ha', q2, hl1', hl2', hl3', hrd'⟩ := HK.out _ HF3.out r i1
      simp only [Option.some.injEq, Addr.mk.injEq, and_true] at ha'
      obtain ⟨rfl, rfl⟩ := ha'
      have C2 := Lib.hid (add_c b2 g2 bs2 p ka' kn' kc' (kb l r) _ X2'.out hl1' (by omega) hrd' (HT.out.keep HF3.out) (by rw [Y2.out]; omega) (by rw [Y2.out]; omega) (by omega))
      clear hfil3 hf3 X2 hl1' hrd' C1
      go_wp2_with fail
      refine (show Calls _ _ _ _ _ from C2.out).mono ?_
      rintro e w4 ⟨rfl, hfil4, hf4⟩
      have HF4 := Lib.hid (HF3.out.own hf4 hg2W)
      have HFIL4 := Lib.hid hfil4
      have HFIL3' := Lib.hid (HFIL3.out.keep hf4 (fun e => b12 e) (fun e => g12 e))
      obtain ⟨tb', to', ka2, kn2, kc2, ha', q3, hl1', hl2', hl3', hrd'⟩ := HK.out _ HF4.out 0 i0
      simp only [Option.some.injEq, Addr.mk.injEq, and_true] at ha'
      obtain ⟨rfl, rfl⟩ := ha'
      rw [Nat.add_zero] at q3
      have C3 := add_c b2 g2 _ p ka2 kn2 kc2 (kb l 0) _ HFIL4.out hl1' (by omega) hrd' (HT.out.keep HF4.out) (by rw [putAll_length, Y2.out]; omega) (by rw [putAll_length, Y2.out]; omega) (by omega)
      rw [putAll_length] at C3
      have C3 := Lib.hid C3
      clear hfil4 hf4 hl1' hrd' C2 HFIL3 HF3 X2'
      go_wp2_with fail
      refine (show Calls _ _ _ _ _ from C3.out).mono ?_
      rintro e w5 ⟨rfl, hfil5, hf5⟩
      have HF5 := Lib.hid (HF4.out.own hf5 hg2W)
      have HFIL5 := Lib.hid hfil5
      have HFIL3'' := Lib.hid (HFIL3'.out.keep hf5 (fun e => b12 e) (fun e => g12 e))
      clear hfil5 hf5 C3
      go_wp2_with fail
      go_roundw
      case rel => exact ⟨k + 1, by simp, by omega, HF5.out, ⟨_, HFIL3''.out, by rw [putAll_length]; exact Y1.out, by rw [← Y1.out]; exact Z1.out⟩, ⟨_, HFIL5.out, by rw [putAll_length, putAll_length]; exact Y2.out, by rw [← Y2.out]; exact Z2.out⟩⟩
      case measure => simp [intOf]; omega
    · have hkn : k = n := by omega
      subst hkn
      have hbs := ord_same z1 z2 (by omega)
      subst hbs
      have C1 := Lib.hid (fbytes_c b1 g1 bs1 p _ x1 (by omega) (by omega))
      have X2 := Lib.hid x2
      have Y1 := Lib.hid y1
      have HFr := Lib.hid hfr
      clear z1 z2 x1 x2 y1 y2 hfr
      go_wp2_with fail
      refine (show Calls _ _ _ _ _ from C1.out).mono ?_
      rintro e w3 ⟨v1, rfl, hrow1, hf3⟩
      have HF3 := Lib.hid (HFr.out.trans hf3)
      have C2 := Lib.hid (fbytes_c b2 g2 bs1 p _ (X2.out.keep hf3 (fun h => h) (fun h => h)) (by omega) (by rw [Y1.out]; omega))
      obtain ⟨s1, k1, rfl, _, _, hin1⟩ := hrow1.form
      have R1 := Lib.hid hin1.rd
      obtain ⟨len1, hlen1⟩ : ∃ len1, (UInt8.ofNat p :: bs1).length = len1 := ⟨_, rfl⟩
      rw [hlen1]
      have HL1 := Lib.hid hlen1
      clear hrow1 hin1 hf3 C1 hlen1
      go_wp2_with fail
      refine (show Calls _ _ _ _ _ from C2.out).mono ?_
      rintro e w4 ⟨v2, rfl, hrow2, hf4⟩
      have HF4 := Lib.hid (HF3.out.trans hf4)
      obtain ⟨s2, k2, rfl, _, _, hin2⟩ := hrow2.form
      rw [HL1.out]
      have C3 := Lib.hid (same_yes (w := w4) (a := s1) (a' := s2) (len := len1) (cap := k1) (len' := len1) (cap' := k2) HL1.out HL1.out (R1.out.keep hf4) hin2.rd rfl)
      clear hrow2 hin2 hf4 C2
      go_wp2_with fail
      refine (show Calls _ _ _ _ _ from C3.out).mono ?_
      rintro e w5 ⟨rfl, rfl⟩
      go_wp2_with fail
      refine (CA.out _ HF4.out).mono ?_
      rintro e w6 ⟨rfl, hf6⟩
      go_wp2_with fail
      go_ret
      exact ⟨rfl, HF4.out.trans hf6⟩
set_option maxRecDepth 20000 in
set_option maxHeartbeats 1600000 in
theorem bloomOrder_no (W : World) (ht : Tab W) (a : Option Addr) (cap : Nat) (l : List Tx) (hm : l.length ≤ maxLen) (hi : Texts W a l) (hsm : smallK l = true) (e : Int) (he0 : -9223372036854775808 ≤ e) (he1 : e ≤ 9223372036854775807) (he : e < 1 ∨ 32 < e) :
    Calls Tryd.prog 8 #[.slice a l.length cap, .int .i64 e] W (Yes W) := by
  obtain ⟨h60, h200⟩ := smallK_yes l hsm
  have CS := small_c a cap l W hm hi
  rw [hsm] at CS
  have CS := Lib.hid CS
  have CN := Lib.hid (fun w => new_no (l.length : Int) e w (by omega) (by omega) he0 he1 (by omega))
  have CA := Lib.hid (awake_c W ht)
  obtain ⟨n, hn⟩ : ∃ n, l.length = n := ⟨_, rfl⟩
  rw [hn] at CS CN h60 ⊢
  clear hm hi hsm ht h200 hn
  have hway : decide (e < 1) = true ∨ (decide (e < 1) = false ∧ decide (32 < e) = true) := by
    simp only [decide_eq_true_eq, decide_eq_false_iff_not]
    omega
  clear he
  rcases hway with d1 | ⟨d1, d2⟩
  all_goals
    go_enter Tryd.func8, Tryd.ntmps8
    go_wp2_with fail
    refine (show Calls _ _ _ _ _ from CS.out).mono ?_
    rintro e w1 ⟨rfl, rfl⟩
    go_wp2_with fail
    refine (CN.out _).mono ?_
    rintro e w1 ⟨rfl, rfl⟩
    go_wp2_with fail
    refine (CN.out _).mono ?_
    rintro e w1 ⟨rfl, rfl⟩
    go_wp2_with fail
    refine (show Calls _ _ _ _ _ from CA.out).mono ?_
    rintro e w5 ⟨rfl, hf5⟩
    go_wp2_with fail
    go_ret
    exact ⟨rfl, hf5⟩
set_option maxHeartbeats 800000 in
theorem bloomOrder_walk (W : World) (ht : Tab W) (a : Option Addr) (cap : Nat) (l : List Tx) (hc : l.length ≤ cap) (hm : cap ≤ maxLen) (hi : Texts W a l) (x1 : Int) (wf1 : (Lit.int .i64 x1).wf = true) :
    Calls Tryd.prog 8 #[.slice a l.length cap, .int .i64 x1] W fun e W' => e = .returned (.bool true) ∧ Below W.heap.size W W' := by
  obtain ⟨a1, a2⟩ := wf64 wf1
  refine Calls.mono (R := Yes W) ?_ fun e w' h => h.post
  have hml : l.length ≤ maxLen := Nat.le_trans hc hm
  cases hsm : smallK l with
  | false =>
    have CS := small_c a cap l W hml hi
    rw [hsm] at CS
    have CS := Lib.hid CS
    have CA := Lib.hid (awake_c W ht)
    generalize l.length = n at *
    clear ht hi hsm
    go_enter Tryd.func8, Tryd.ntmps8
    go_wp2_with fail
    refine (show Calls _ _ _ _ _ from CS.out).mono ?_
    rintro e w1 ⟨rfl, rfl⟩
    go_wp2_with fail
    refine (show Calls _ _ _ _ _ from CA.out).mono ?_
    rintro e w3 ⟨rfl, hf3⟩
    go_wp2_with fail
    go_ret
    exact ⟨rfl, hf3⟩
  | true =>
    by_cases hin : 1 ≤ x1 ∧ x1 ≤ 32
    · obtain ⟨e, rfl⟩ := Int.eq_ofNat_of_zero_le (show 0 ≤ x1 by omega)
      exact bloomOrder_in W ht a cap l hml hi hsm e (by omega) (by omega)
    · exact bloomOrder_no W ht a cap l hml hi hsm x1 a1 a2 (by omega)
end Go.Proofs.YtbglicndccdaiaaDoor
