/-
  The walk of the statement BloomKeeps.
-/
import Derived.Test.YtbglicndccdaiaaDoorBlX
namespace Go.Proofs.YtbglicndccdaiaaDoor
set_option linter.unusedVariables false
set_option linter.unusedSimpArgs false
open Go.RowKit

theorem infoSl : (Tryd.prog.info? 23).map (fun i => (i.zero, i.size, i.bytes)) = some (some (.slice none 0 0), 1, 24) := by kernel_rfl
theorem cellsSl : Tryd.prog.cellsOf 23 = 1 := by kernel_rfl
theorem sizeSl (w : World) : (sizeOf 23).run Tryd.prog w = .ok 1 w := size_one cellsSl (by
  obtain ⟨i0, hi, _, hz1, _⟩ := info_parts infoSl
  exact ⟨i0, hi, hz1⟩) w
/-- All of the first k keys are there. -/
def AllIn (l : List Tx) (M p k : Nat) (bs : List UInt8) : Prop := ∀ i, i < k → hasB bs (places (kb l i) M p) = true
theorem AllIn.step {l : List Tx} {p k : Nat} {bs : List UInt8} (h : AllIn l (8 * bs.length) p k bs) (h0 : 0 < bs.length) : AllIn l (8 * bs.length) p (k + 1) (putAll bs (places (kb l k) (8 * bs.length) p)) := fun i hi => by
  rcases Nat.lt_or_ge i k with h1 | h1
  · exact hasB_more _ _ _ (places_lt _ _ _ (by omega)) (h i h1)
  · obtain rfl : i = k := by omega
    exact hasB_put _ _ (places_lt _ _ _ (by omega))
set_option maxRecDepth 20000 in
set_option maxHeartbeats 2000000 in
theorem bloomKeeps_in (W : World) (ht : Tab W) (a : Option Addr) (cap : Nat) (l : List Tx) (hc : l.length ≤ cap) (hm : cap ≤ maxLen) (hi : Texts W a l) (hsm : smallK l = true) (e : Nat) (he1 : 1 ≤ e) (he2 : e ≤ 32) :
    Calls Tryd.prog 5 #[.slice a l.length cap, .int .i64 (e : Int)] W (Yes W) := by
  obtain ⟨h60, h200⟩ := smallK_yes l hsm
  have CS := small_c a cap l W (Nat.le_trans hc hm) hi
  rw [hsm] at CS
  have CS := Lib.hid CS
  have CN := Lib.hid (fun w => new_c l.length e (by omega) he1 he2 w)
  have HK := Lib.hid (fun w (f : Fr No W w) i (hl : i < l.length) => hi.key h200 f hl)
  have HT := Lib.hid ht
  have hN0 := sizeB_pos l.length e
  have hN1 := sizeB_le l.length e (by omega) he2
  obtain ⟨hp1, hp2⟩ := probF_pos e he2
  have CA := Lib.hid (fun w (f : Fr No W w) => awake_c w (ht.keep f))
  obtain ⟨n, hn⟩ : ∃ n, l.length = n := ⟨_, rfl⟩
  rw [hn] at CS CN HK hN0 hN1 h60 hc ⊢
  have hm2 := hm
  unfold maxLen at hm2
  clear hm hi hsm ht h200
  generalize sizeB n e = N at *
  generalize probF e = p at *
  clear hn
  go_enter Tryd.func5, Tryd.ntmps5
  go_wp2_with fail
  refine (show Calls _ _ _ _ _ from CS.out).mono ?_
  rintro e w1 ⟨rfl, rfl⟩
  go_wp2_with fail
  refine (CN.out _).mono ?_
  rintro e w1 ⟨b, g, rfl, hfil1, hf1, hb1, hg1⟩
  have HF1 := Lib.hid hf1
  have HFIL1 := Lib.hid hfil1
  clear hf1 hfil1 CN CS
  go_wp2_with fail
  go_loopw [7, 44] (fun s i wr => ∃ k : Nat, i = .int .i64 k ∧ k ≤ n ∧ Fr No W wr ∧ (∃ bs, s = .int .i64 ((setN bs : Nat) : Int) ∧ Fil wr b g bs p ∧ bs.length = N ∧ AllIn l (8 * N) p k bs)) (fun _ i _ => n - (intOf i).toNat)
  case atStart => exact ⟨0, rfl, Nat.zero_le _, HF1.out, ⟨_, by rw [setN_zero]; rfl, HFIL1.out, by simp, fun i hi => absurd hi (Nat.not_lt_zero i)⟩⟩
  case round =>
    obtain ⟨k, rfl, hk, hfr, ⟨bs, rfl, x1, y1, z1⟩⟩ := hrel
    by_cases h1 : k < n
    · obtain ⟨tb, to, ka, kn, kc, rfl, q1, hl1, hl2, hl3, hrd⟩ := HK.out _ hfr k h1
      have C1 := Lib.hid (add_c b g bs p ka kn kc (kb l k) _ x1 hl1 (by omega) hrd (HT.out.keep hfr) (by omega) (by omega) (by omega))
      have z1' := z1
      rw [← y1] at z1'
      have z2 := z1'.step (by omega)
      have s1 := setN_putAll (places (kb l k) (8 * bs.length) p) bs (places_lt _ _ _ (by omega))
      have s2 := setN_le (putAll bs (places (kb l k) (8 * bs.length) p))
      have y2 : (putAll bs (places (kb l k) (8 * bs.length) p)).length = N := by rw [putAll_length]; exact y1
      rw [y2] at s2
      obtain ⟨bs2, hbs2⟩ : ∃ bs2, putAll bs (places (kb l k) (8 * bs.length) p) = bs2 := ⟨_, rfl⟩
      rw [hbs2] at C1 z2 s1 s2 y2
      rw [y1] at z2
      have Z2 := Lib.hid z2
      have Y2 := Lib.hid y2
      have HFr := Lib.hid hfr
      generalize setN bs = t1 at *
      clear hrd z1 z1' x1 hfr hl1 z2 hbs2 y1
      go_wp2_with fail
      refine (show Calls _ _ _ _ _ from C1.out).mono ?_
      rintro e w3 ⟨rfl, hfil3, hf3⟩
      have HF3 := Lib.hid (HFr.out.own hf3 hg1)
      have HFIL3 := Lib.hid hfil3
      have C2 := set_c b g bs2 p w3 hfil3 (by omega)
      have C3 := Lib.hid (bits_c b g bs2 p w3 hfil3 (by omega))
      rw [Y2.out] at C3
      generalize hS2 : setN bs2 = t2 at *
      have HS2 := Lib.hid hS2
      have C2 := Lib.hid C2
      clear hfil3 hf3 C1 hS2 y2
      have d1 : decide ((t2 : Int) < (t1 : Int)) = false := decide_eq_false (by omega)
      have d2 : decide (((8 * N : Nat) : Int) < (t2 : Int)) = false := decide_eq_false (by omega)
      go_wp2_with fail
      refine (show Calls _ _ _ _ _ from C2.out).mono ?_
      rintro e w4 ⟨rfl, rfl⟩
      go_wp2_with fail
      refine (show Calls _ _ _ _ _ from C2.out).mono ?_
      rintro e w4 ⟨rfl, rfl⟩
      go_wp2_with fail
      refine (show Calls _ _ _ _ _ from C3.out).mono ?_
      rintro e w4 ⟨rfl, rfl⟩
      go_wp2_with fail
      refine (show Calls _ _ _ _ _ from C2.out).mono ?_
      rintro e w4 ⟨rfl, rfl⟩
      have K : ∀ w, (Instr.slice 22 (.slice (some ⟨tb, to, none⟩) n cap) none (some (.int .i64 ((k : Int) + 1))) none).run Tryd.prog w = .ok (.slice (some ⟨tb, to, none⟩) (k + 1) cap) w := fun w => by
        have := cut_hi (P := Tryd.prog) (t := 22) (e := 23) Tryd.underlying22 sizeSl (some ⟨tb, to, none⟩) n cap (k + 1) (by omega) w
        rwa [show ((k + 1 : Nat) : Int) = (k : Int) + 1 by omega] at this
      clear d1 d2 s1 s2
      go_wp2_with fail
      clear K
      go_loopw [70] (fun i wr => ∃ j : Nat, i = .int .i64 j ∧ j ≤ k + 1 ∧ Fr No w3 wr) (fun i _ => k + 1 - (intOf i).toNat)
      case atStart => exact ⟨0, rfl, Nat.zero_le _, Fr.refl _ _⟩
      case round =>
        obtain ⟨j, rfl, hj, hfr4⟩ := hrel
        have HF4 := Lib.hid (HF3.out.trans hfr4)
        have HFIL4 := Lib.hid (HFIL3.out.keep hfr4 (fun h => h) (fun h => h))
        have HFR4 := Lib.hid hfr4
        clear hfr4
        by_cases h2 : j < k + 1
        · obtain ⟨tb', to', ka', kn', kc', ha', q2, hl1', hl2', hl3', hrd'⟩ := HK.out _ HF4.out j (by omega)
          simp only [Option.some.injEq, Addr.mk.injEq, and_true] at ha'
          obtain ⟨rfl, rfl⟩ := ha'
          have C5 := has_c b g bs2 p ka' kn' kc' (kb l j) _ HFIL4.out hl1' (by omega) hrd' (HT.out.keep HF4.out) (by rw [Y2.out]; omega) (by rw [Y2.out]; omega) (by omega)
          rw [Y2.out, Z2.out j h2] at C5
          have C5 := Lib.hid C5
          clear hl1' hrd'
          go_wp2_with fail
          refine (show Calls _ _ _ _ _ from C5.out).mono ?_
          rintro e w5 ⟨rfl, hf5⟩
          have HF5 := Lib.hid (HFR4.out.trans hf5)
          clear hf5 C5
          go_wp2_with fail
          go_roundw
          case rel => exact ⟨j + 1, by simp, by omega, HF5.out⟩
          case measure => simp [intOf]; omega
        · have hjk : j = k + 1 := by omega
          have FINI := Lib.hid (show ∃ bs, Value.int .i64 (t2 : Int) = .int .i64 ((setN bs : Nat) : Int) ∧ Fil wr b g bs p ∧ bs.length = N ∧ AllIn l (8 * N) p (k + 1) bs from ⟨bs2, by rw [HS2.out], HFIL4.out, Y2.out, Z2.out⟩)
          go_wp2_with fail
          go_roundw
          case rel => exact ⟨k + 1, by simp, by omega, HF4.out, FINI.out⟩
          case measure => simp [intOf]; omega
    · have hkn : k = n := by omega
      have HFr := Lib.hid hfr
      clear z1 x1 hfr
      generalize setN bs = t1 at *
      go_wp2_with fail
      refine (CA.out _ HFr.out).mono ?_
      rintro e w6 ⟨rfl, hf6⟩
      go_wp2_with fail
      go_ret
      exact ⟨rfl, HFr.out.trans hf6⟩
set_option maxRecDepth 20000 in
set_option maxHeartbeats 1600000 in
theorem bloomKeeps_no (W : World) (ht : Tab W) (a : Option Addr) (cap : Nat) (l : List Tx) (hm : l.length ≤ maxLen) (hi : Texts W a l) (hsm : smallK l = true) (e : Int) (he0 : -9223372036854775808 ≤ e) (he1 : e ≤ 9223372036854775807) (he : e < 1 ∨ 32 < e) :
    Calls Tryd.prog 5 #[.slice a l.length cap, .int .i64 e] W (Yes W) := by
  obtain ⟨h60, h200⟩ := smallK_yes l hsm
  have CS := small_c a cap l W hm hi
  rw [hsm] at CS
  have CS := Lib.hid CS
  have CN := Lib.hid (fun w => new_no (l.length : Int) e w (by omega) (by omega) he0 he1 (by omega))
  have CA := Lib.hid (awake_c W ht)
  obtain ⟨n, hn⟩ : ∃ n, l.length = n := ⟨_, rfl⟩
  rw [hn] at CS CN h60 ⊢
  clear hm hi hsm ht h200 hn
  have hway : decide (e < 1) = true ∨ (decide (e < 1) = false ∧ decide (32 < e) = true) := by
    simp only [decide_eq_true_eq, decide_eq_false_iff_not]
    omega
  clear he
  rcases hway with d1 | ⟨d1, d2⟩
  all_goals
    go_enter Tryd.func5, Tryd.ntmps5
    go_wp2_with fail
    refine (show Calls _ _ _ _ _ from CS.out).mono ?_
    rintro e w1 ⟨rfl, rfl⟩
    go_wp2_with fail
    refine (CN.out _).mono ?_
    rintro e w1 ⟨rfl, rfl⟩
    go_wp2_with fail
    refine (show Calls _ _ _ _ _ from CA.out).mono ?_
    rintro e w5 ⟨rfl, hf5⟩
    go_wp2_with fail
    go_ret
    exact ⟨rfl, hf5⟩
set_option maxHeartbeats 800000 in
theorem bloomKeeps_walk (W : World) (ht : Tab W) (a : Option Addr) (cap : Nat) (l : List Tx) (hc : l.length ≤ cap) (hm : cap ≤ maxLen) (hi : Texts W a l) (x1 : Int) (wf1 : (Lit.int .i64 x1).wf = true) :
    Calls Tryd.prog 5 #[.slice a l.length cap, .int .i64 x1] W fun e W' => e = .returned (.bool true) ∧ Below W.heap.size W W' := by
  obtain ⟨a1, a2⟩ := wf64 wf1
  refine Calls.mono (R := Yes W) ?_ fun e w' h => h.post
  have hml : l.length ≤ maxLen := Nat.le_trans hc hm
  cases hsm : smallK l with
  | false =>
    have CS := small_c a cap l W hml hi
    rw [hsm] at CS
    have CS := Lib.hid CS
    have CA := Lib.hid (awake_c W ht)
    generalize l.length = n at *
    clear ht hi hsm
    go_enter Tryd.func5, Tryd.ntmps5
    go_wp2_with fail
    refine (show Calls _ _ _ _ _ from CS.out).mono ?_
    rintro e w1 ⟨rfl, rfl⟩
    go_wp2_with fail
    refine (show Calls _ _ _ _ _ from CA.out).mono ?_
    rintro e w3 ⟨rfl, hf3⟩
    go_wp2_with fail
    go_ret
    exact ⟨rfl, hf3⟩
  | true =>
    by_cases hin : 1 ≤ x1 ∧ x1 ≤ 32
    · obtain ⟨e, rfl⟩ := Int.eq_ofNat_of_zero_le (show 0 ≤ x1 by omega)
      exact bloomKeeps_in W ht a cap l hc hm hi hsm e (by omega) (by omega)
    · exact bloomKeeps_no W ht a cap l hml hi hsm x1 a1 a2 (by omega)
end Go.Proofs.YtbglicndccdaiaaDoor
