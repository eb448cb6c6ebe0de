/-
  Layer 5: the walk of SkipAgain.
-/
import Derived.Test.YtdnaebbfbkdjoaaSkY
import Derived.Test.YtdnaebbfbkdjoaaOpenL
import Derived.Deep.RegionHeld3
namespace Go.Proofs.Ytdnaebbfbkdjoaa
set_option linter.unusedVariables false
open Go.RowKit

namespace KI
theorem keysC_setN (ns : List N2) (g : Nat) (v : Int) : keysC (ns.map (setN g v)) = keysC ns := by
  unfold keysC
  rw [List.map_map]
  refine List.map_congr_left fun x _ => ?_
  show (Value.int .i64) (setN g v x).k = _
  rw [setN_k]
end KI
open KI in
set_option maxRecDepth 20000 in
set_option maxHeartbeats 8000000 in
theorem skipAgain_walk (W : World) (a : Option Addr) (cap : Nat) (l : List Int) (t v h : Int) (hc : l.length ≤ cap) (hm : cap ≤ maxLen) (rd : Ints W a l) (wt : (Lit.int .i64 t).wf = true) (wv : (Lit.int .i64 v).wf = true) (wh : (Lit.int .i64 h).wf = true) :
    Calls Try.prog 7 #[.agg #[.slice a l.length cap, .int .i64 t, .int .i64 v, .int .i64 h]] W fun e w' => e = .returned (.bool true) ∧ Below W.heap.size W w' := by
  have HRD := Lib.hid rd
  unfold maxLen at hm
  obtain ⟨n, hn⟩ : ∃ n, l.length = n := ⟨_, rfl⟩
  rw [hn] at hc
  rw [hn]
  have HN := Lib.hid hn
  clear rd hn wt wv wh
  have fin : ∀ w' : World, Fr No W w' → Below W.heap.size W w' := fun w' f => f.below (Nat.le_refl _) (fun _ h => h.elim)
  have FIN := Lib.hid fin
  clear fin
  have A0 := At.new W 65 #[.slice a n cap, .int .i64 t, .int .i64 v, .int .i64 h]
  have c0 := A0.cell 0
  have c1 := A0.cell 1
  have c2 := A0.cell 2
  have c3 := A0.cell 3
  simp at c0 c1 c2 c3
  have HF0 := Lib.hid ((Fr.refl No W).alloc (.cells #[.slice a n cap, .int .i64 t, .int .i64 v, .int .i64 h] 65)).drew
  clear A0
  go_enter Try.func7, Try.ntmps7
  go_wp2_with fail
  go_region
  go_wp2_with fail
  refine (new_c _).mono ?_
  rintro e w1 ⟨⟨b, hb, hs, rfl, L1, low⟩, f1⟩
  have HL1 := Lib.hid L1
  have HF1 := Lib.hid (HF0.out.trans f1)
  have HLO : Hid (∀ z, SkOn b hb hs ([] : List N2) z → W.heap.size ≤ z) := Lib.hid fun z hz => Nat.le_trans HF0.out.size (low z hz)
  clear L1 low f1 c0 c1 c2 c3
  by_cases hbig : 60 < n
  · have d1 : decide ((60 : Int) < (n : Int)) = true := by rw [decide_eq_true_eq]; omega
    have HA := Lib.hid (awake_c w1)
    go_wp2_with fail
    refine HA.out.mono ?_
    rintro e w2 ⟨rfl, f2⟩
    have HF2 := Lib.hid (HF1.out.trans f2)
    clear f2
    go_wp2_with fail
    go_ret
    exact ⟨rfl, FIN.out _ HF2.out⟩
  have d1 : decide ((60 : Int) < (n : Int)) = false := by rw [decide_eq_false_iff_not]; omega
  go_wp2_with fail
  clear d1
  go_loopw [42] (fun i wr => ∃ (j : Nat) (ns : List N2), i = .int .i64 j ∧ j ≤ n ∧ SkL wr b hb hs ns ∧ (∀ x, (∃ m ∈ ns, m.k = x) ↔ x ∈ l.take j) ∧ ns.length ≤ j ∧ (∀ z, SkOn b hb hs ns z → W.heap.size ≤ z) ∧ Fr No W wr) (fun i _ => n - (intOf i).toNat)
  case atStart => exact ⟨0, [], rfl, Nat.zero_le _, HL1.out, fun x => by simp, Nat.le_refl _, HLO.out, HF1.out⟩
  case round =>
    obtain ⟨j, ns, rfl, hj, L, hk, hle, hlo, hf⟩ := hrel
    by_cases hjn : j < n
    · obtain ⟨g, o, rfl, hx⟩ := HRD.out (by rw [HN.out]; omega)
      obtain ⟨x, hx0⟩ : ∃ x, l[j]? = some x := ⟨_, List.getElem?_eq_getElem (by rw [HN.out]; exact hjn)⟩
      have q0 := hf.cell (hx j x hx0).1 (fun h => h)
      have HX0 := Lib.hid hx0
      have HP := Lib.hid (put_c b hb hs ns x (j : Int) (1 + (j : Int) % 12) wr L (by omega))
      have HK := Lib.hid hk
      have HLO2 := Lib.hid hlo
      have HF := Lib.hid hf
      have d1 : decide ((j : Int) < (n : Int)) = true := by rw [decide_eq_true_eq]; omega
      clear hx hx0 L hk hlo hf
      go_wp2_with fail
      refine HP.out.mono ?_
      rintro e w2 ⟨⟨ns', L2, on, hps⟩, f2⟩
      obtain ⟨hk2, hl2, bb, rfl⟩ := hps.keys (by omega)
      have HL2 := Lib.hid L2
      have HF2 := Lib.hid (HF.out.own HLO2.out f2)
      have HK2 : Hid (∀ x', (∃ m ∈ ns', m.k = x') ↔ x' ∈ l.take (j + 1)) := Lib.hid fun x' => by
        rw [hk2, HK.out, List.take_add_one, HX0.out]
        simp [or_comm]
      have HLO3 : Hid (∀ z, SkOn b hb hs ns' z → W.heap.size ≤ z) := Lib.hid fun z hz => (on z hz).elim (HLO2.out z) (fun h => Nat.le_trans HF.out.size h)
      clear L2 on hps f2 hk2 q0
      go_wp2_with fail
      go_roundw
      case rel => exact ⟨j + 1, ns', by simp, by omega, HL2.out, HK2.out, by omega, HLO3.out, HF2.out⟩
      case measure => simp [intOf]; omega
    · obtain rfl : j = n := by omega
      have d1 : decide ((j : Int) < (j : Int)) = false := by simp
      have HL := Lib.hid L
      have HLO2 := Lib.hid hlo
      have HK : Hid (∀ x, (∃ m ∈ ns, m.k = x) ↔ x ∈ l) := Lib.hid (by
        rw [← HN.out, List.take_length] at hk
        exact hk)
      have HF := Lib.hid hf
      have HA := Lib.hid (awake_c wr)
      clear L hlo hk hf
      by_cases ht0 : t < 0
      · have d2 : decide (t < 0) = true := decide_eq_true ht0
        go_wp2_with fail
        refine HA.out.mono ?_
        rintro e w2 ⟨rfl, f2⟩
        have HF2 := Lib.hid (HF.out.trans f2)
        clear f2
        go_wp2_with fail
        go_ret
        exact ⟨rfl, FIN.out _ HF2.out⟩
      have d2 : decide (t < 0) = false := decide_eq_false ht0
      obtain ⟨p, rfl⟩ := Int.eq_ofNat_of_zero_le (show 0 ≤ t by omega)
      by_cases htn : j ≤ p
      · have d3 : decide ((j : Int) ≤ (p : Int)) = true := by rw [decide_eq_true_eq]; omega
        go_wp2_with fail
        refine HA.out.mono ?_
        rintro e w2 ⟨rfl, f2⟩
        have HF2 := Lib.hid (HF.out.trans f2)
        clear f2
        go_wp2_with fail
        go_ret
        exact ⟨rfl, FIN.out _ HF2.out⟩
      have d3 : decide ((j : Int) ≤ (p : Int)) = false := by rw [decide_eq_false_iff_not]; omega
      clear HA
      obtain ⟨g, o, rfl, hx⟩ := HRD.out (by rw [HN.out]; omega)
      obtain ⟨x, hx0⟩ : ∃ x, l[p]? = some x := ⟨_, List.getElem?_eq_getElem (by rw [HN.out]; omega)⟩
      have Q0 : Hid (∀ W', Fr No W W' → W'.cell? ⟨g, o + p, none⟩ = some (.int .i64 x)) := Lib.hid fun W' f => f.cell (hx p x hx0).1 (fun h => h)
      obtain ⟨y, hy, hyk⟩ := (HK.out x).2 (List.mem_of_getElem? hx0)
      have HY := Lib.hid hy
      have HYK := Lib.hid hyk
      have HG : Hid (getN ns x = some y) := Lib.hid (by rw [← hyk]; exact get_of_mem ordI HL.out.srt hy)
      have c0 := Q0.out wr HF.out
      have hpj : p < j := by omega
      clear hx hx0 hy hyk
      have HLEN := Lib.hid (len_c (HL.out.keep ((Fr.refl No wr).drew) (fun _ _ h => h)))
      have HHEI := Lib.hid (height_c b hb hs ns x wr.drew (HL.out.keep ((Fr.refl No wr).drew) (fun _ _ h => h)))
      rw [HG.out, show heightR (some y) = .int .i64 (y.h : Int) from rfl] at HHEI
      obtain ⟨m, hm0⟩ : ∃ m, ns.length = m := ⟨_, rfl⟩
      obtain ⟨yh, hyh⟩ : ∃ m : Nat, y.h = m := ⟨_, rfl⟩
      rw [hm0] at HLEN hle
      rw [hyh] at HHEI
      have HM := Lib.hid hm0
      have HYH := Lib.hid hyh
      clear hm0 hyh
      go_wp2_with fail
      go_region_held3 (fun w' => w'.cell? ⟨g, o + p, none⟩ = some (.int .i64 x)) (first | assumption | go_keep)
        (first
          | (go_at_call 13; refine HLEN.out.mono ?_; rintro e w2 ⟨rfl, rfl⟩)
          | (go_at_call 16; refine HHEI.out.mono ?_; rintro e w2 ⟨rfl, f2⟩
             have HF2 := Lib.hid (HF.out.drew.trans f2)
             have HL2 := Lib.hid (HL.out.keep (((Fr.refl No wr).drew).trans f2) (fun _ _ h => h))
             have c2 := Q0.out w2 HF2.out
             clear f2)
          | (go_at_call 26; refine (keys_c b hb hs ns w2 HL2.out (by rw [HM.out]; omega)).mono ?_; rintro e w3 ⟨⟨kv, rfl, hrow⟩, f3⟩
             obtain ⟨ka, kc, rfl, kle, kmx, _, kcell⟩ := hrow.form
             have KC : Hid (∀ t (ht : t < ns.length), ∃ g, ka = some ⟨g, 0, none⟩ ∧ ¬ SkOn b hb hs ns g ∧ w3.cell? ⟨g, t, none⟩ = some (.int .i64 (ns[t]).k)) := Lib.hid fun t ht => by
               have hm := HM.out
               obtain ⟨g, hS, hg, hcell⟩ := kcell (by omega)
               refine ⟨g, hg, fun hon => ?_, (hcell t (by omega)).1.trans (keysC_at t ht)⟩
               have h1 := HL2.out.lt_size g hon
               exact hS.elim (fun h => h.elim) (fun h => absurd h.1 (by omega))
             have HF3 := Lib.hid (HF2.out.trans f3)
             have HL3 := Lib.hid (HL2.out.keep f3 (fun _ _ h => h))
             have c3 := Q0.out w3 HF3.out
             unfold maxLen at kmx
             rw [HM.out] at kle
             rw [HM.out]
             clear f3 hrow kcell))
      have HPU := Lib.hid (put_c b hb hs ns x v h w3 HL3.out (by rw [HM.out]; omega))
      go_wp2_with fail
      by_cases h1 : h < 1
      · have d4 : decide (h < 1) = true := decide_eq_true h1
        refine HPU.out.mono ?_
        rintro e w4 ⟨⟨ns', L4, on, hps⟩, f4⟩
        have HF4 := Lib.hid (HF3.out.own HLO2.out f4)
        obtain ⟨rfl, rfl⟩ := hps.bad (.inl h1)
        have HLN := Lib.hid (len_c L4)
        rw [HM.out] at HLN
        have d6 : ((m : Int) == (m : Int)) = true := by simp
        clear L4 on hps f4
        go_wp2_with fail
        refine HLN.out.mono ?_
        rintro e w5 ⟨rfl, rfl⟩
        have HA := Lib.hid (awake_c w4)
        go_wp2_with fail
        refine HA.out.mono ?_
        rintro e w6 ⟨rfl, f6⟩
        have HF6 := Lib.hid (HF4.out.trans f6)
        clear f6
        go_wp2_with fail
        go_ret
        exact ⟨rfl, FIN.out _ HF6.out⟩
      have d4 : decide (h < 1) = false := decide_eq_false h1
      by_cases h2 : 12 < h
      · have d5 : decide (12 < h) = true := decide_eq_true h2
        refine HPU.out.mono ?_
        rintro e w4 ⟨⟨ns', L4, on, hps⟩, f4⟩
        have HF4 := Lib.hid (HF3.out.own HLO2.out f4)
        obtain ⟨rfl, rfl⟩ := hps.bad (.inr h2)
        have HLN := Lib.hid (len_c L4)
        rw [HM.out] at HLN
        have d6 : ((m : Int) == (m : Int)) = true := by simp
        clear L4 on hps f4
        go_wp2_with fail
        refine HLN.out.mono ?_
        rintro e w5 ⟨rfl, rfl⟩
        have HA := Lib.hid (awake_c w4)
        go_wp2_with fail
        refine HA.out.mono ?_
        rintro e w6 ⟨rfl, f6⟩
        have HF6 := Lib.hid (HF4.out.trans f6)
        clear f6
        go_wp2_with fail
        go_ret
        exact ⟨rfl, FIN.out _ HF6.out⟩
      have d5 : decide (12 < h) = false := decide_eq_false h2
      refine HPU.out.mono ?_
      rintro e w4 ⟨⟨ns', L4, on, hps⟩, f4⟩
      have HF4 := Lib.hid (HF3.out.own HLO2.out f4)
      have KC4 : Hid (∀ t (ht : t < ns.length), ∃ g, ka = some ⟨g, 0, none⟩ ∧ w4.cell? ⟨g, t, none⟩ = some (.int .i64 (ns[t]).k)) := Lib.hid fun t ht => by
        obtain ⟨g, h1, h2, h3⟩ := KC.out t ht
        exact ⟨g, h1, f4.cell h3 h2⟩
      rcases hps with ⟨h3, _⟩ | ⟨_, y', hy', hk', rfl, rfl⟩ | ⟨_, hno, _⟩
      · exact absurd h3 (by omega)
      · have ey : y' = y := sorted_key ordI HL.out.srt hy' HY.out (hk'.trans HYK.out.symm)
        subst ey
        have e1 : getN (ns.map (setN y'.b v)) x = some (setN y'.b v y') := by
          have := get_of_mem ordI L4.srt (List.mem_map_of_mem hy')
          rw [setN_k, hk'] at this
          exact this
        have ev : (setN y'.b v y').v = v := by unfold setN; rw [if_pos rfl]
        have HGE := Lib.hid (get_c b hb hs _ x w4 L4)
        rw [e1, show getR (some (setN y'.b v y')) = .tuple #[.int .i64 (setN y'.b v y').v, .bool true] from rfl, ev] at HGE
        have HE1 := Lib.hid e1
        have HL4 := Lib.hid L4
        have c4 := Q0.out w4 HF4.out
        clear L4 on f4 hy' hk' e1 ev
        go_wp2_with fail
        refine HGE.out.mono ?_
        rintro e w5 ⟨rfl, f5⟩
        have HF5 := Lib.hid (HF4.out.trans f5)
        have HG5 := Lib.hid f5
        have HL5 := Lib.hid (HL4.out.keep f5 (fun _ _ h => h))
        clear f5
        go_wp2_with fail
        refine (keys_c b hb hs _ w5 HL5.out (by rw [List.length_map, HM.out]; omega)).mono ?_
        rintro e w6 ⟨⟨kv, rfl, hrow⟩, f6⟩
        rw [List.length_map, keysC_setN] at hrow
        obtain ⟨kb, kd, rfl, kle2, kmx2, _, kcell⟩ := hrow.form
        have KD : Hid (∀ t (ht : t < ns.length), ∃ g, kb = some ⟨g, 0, none⟩ ∧ w6.cell? ⟨g, t, none⟩ = some (.int .i64 (ns[t]).k)) := Lib.hid fun t ht => by
          obtain ⟨g, hS, hg, hcell⟩ := kcell (by omega)
          exact ⟨g, hg, (hcell t (by omega)).1.trans (keysC_at t ht)⟩
        unfold maxLen at kmx2
        have HF6 := Lib.hid (HF5.out.trans f6)
        have HG6 := Lib.hid (HG5.out.trans f6)
        have HL6 := Lib.hid (HL5.out.keep f6 (fun _ _ h => h))
        rw [HM.out] at kle2
        rw [HM.out]
        clear f6 hrow kcell
        have HLN := Lib.hid (len_c HL6.out)
        rw [List.length_map, HM.out] at HLN
        have HHE := Lib.hid (height_c b hb hs _ x w6 HL6.out)
        rw [HE1.out, show heightR (some (setN y'.b v y')) = .int .i64 ((setN y'.b v y').h : Int) from rfl, setN_h, HYH.out] at HHE
        have q0 := Q0.out w6 HF6.out
        have d6 : ((m : Int) == (m : Int)) = true := by simp
        have d7 : ((yh : Int) == (yh : Int)) = true := by simp
        have d8 : (v == v) = true := by simp
        clear c0 c2 c3 c4
        go_wp2_with fail
        refine HLN.out.mono ?_
        rintro e w7 ⟨rfl, rfl⟩
        go_wp2_with fail
        refine HHE.out.mono ?_
        rintro e w7 ⟨rfl, f7⟩
        have HF7 := Lib.hid (HF6.out.trans f7)
        have HG7 := Lib.hid f7
        clear f7 q0
        go_wp2_with fail
        go_loopw [156] (fun i wr => ∃ t : Nat, i = .int .i64 t ∧ t ≤ m ∧ Fr No w7 wr) (fun i _ => m - (intOf i).toNat)
        case atStart => exact ⟨0, rfl, Nat.zero_le _, Fr.refl _ _⟩
        case round =>
          obtain ⟨t, rfl, ht, hfq⟩ := hrel
          have HFQ := Lib.hid hfq
          clear hfq
          by_cases htm : t < m
          · have htm' : t < ns.length := by rw [HM.out]; exact htm
            have g1 : decide ((t : Int) < (m : Int)) = true := by rw [decide_eq_true_eq]; omega
            obtain ⟨g1', rfl, r1⟩ := KC4.out t htm'
            obtain ⟨g2', rfl, r2⟩ := KD.out t htm'
            have r1 := (HG6.out.trans (HG7.out.trans HFQ.out)).cell r1 (fun h => h)
            have r2 := (HG7.out.trans HFQ.out).cell r2 (fun h => h)
            obtain ⟨z, hz⟩ : ∃ z, (ns[t]).k = z := ⟨_, rfl⟩
            rw [hz] at r1 r2
            have d9 : (z == z) = true := by simp
            clear hz
            go_wp2_with fail
            go_region
            go_wp2_with fail
            go_roundw
            case rel => exact ⟨t + 1, by simp, by omega, HFQ.out.drew⟩
            case measure => simp [intOf]; omega
          · obtain rfl : t = m := by omega
            have g1 : decide ((t : Int) < (t : Int)) = false := by simp
            have HA := Lib.hid (awake_c wr)
            go_wp2_with fail
            refine HA.out.mono ?_
            rintro e w8 ⟨rfl, f8⟩
            have HF8 := Lib.hid ((HF7.out.trans HFQ.out).trans f8)
            clear f8
            go_wp2_with fail
            go_ret
            exact ⟨rfl, FIN.out _ HF8.out⟩
      · exact absurd HYK.out (hno y HY.out)
end Go.Proofs.Ytdnaebbfbkdjoaa
