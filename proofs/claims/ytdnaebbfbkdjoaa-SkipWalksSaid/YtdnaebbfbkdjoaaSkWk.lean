/-
  Layer 5: the walk of SkipWalks.
-/
import Derived.Test.YtdnaebbfbkdjoaaSkY
import Derived.Test.YtdnaebbfbkdjoaaSkXB
import Derived.Test.YtdnaebbfbkdjoaaOpenL
namespace Go.Proofs.Ytdnaebbfbkdjoaa
set_option linter.unusedVariables false
open Go.RowKit

open KB in
set_option maxRecDepth 20000 in
set_option maxHeartbeats 8000000 in
theorem skipWalks_walk (W : World) (a : Option Addr) (cap : Nat) (l : List Int) (hc : l.length ≤ cap) (hm : cap ≤ maxLen) (rd : Ints W a l) (a' : Option Addr) (cap' : Nat) (l' : List Int) (hc' : l'.length ≤ cap') (hm' : cap' ≤ maxLen) (rd' : Ints W a' l') :
    Calls Try.prog 6 #[.slice a l.length cap, .slice a' l'.length cap'] W fun e w' => e = .returned (.bool true) ∧ Below W.heap.size W w' := by
  have HRD := Lib.hid rd
  have HRD' := Lib.hid rd'
  unfold maxLen at hm hm'
  obtain ⟨n, hn⟩ : ∃ n, l.length = n := ⟨_, rfl⟩
  obtain ⟨n', hn'⟩ : ∃ n, l'.length = n := ⟨_, rfl⟩
  rw [hn] at hc
  rw [hn'] at hc'
  rw [hn, hn']
  have HN := Lib.hid hn
  have HN' := Lib.hid hn'
  have HC := Lib.hid (new_c W)
  clear rd hn rd' hn'
  have fin : ∀ w' : World, Fr No W w' → Below W.heap.size W w' := fun w' f => f.below (Nat.le_refl _) (fun _ h => h.elim)
  have FIN := Lib.hid fin
  clear fin
  go_enter Try.func6, Try.ntmps6
  go_wp2_with fail
  refine HC.out.mono ?_
  rintro e w1 ⟨⟨b, hb, hs, rfl, L1, low⟩, f1⟩
  have HL1 := Lib.hid L1
  have HLO := Lib.hid low
  have HF1 := Lib.hid f1
  clear L1 low f1
  have HA := Lib.hid (awake_c w1)
  by_cases hbig : 80 < n
  · have d1 : decide ((80 : Int) < (n : Int)) = true := by rw [decide_eq_true_eq]; omega
    go_wp2_with fail
    refine HA.out.mono ?_
    rintro e w2 ⟨rfl, f2⟩
    have HF2 := Lib.hid (HF1.out.trans f2)
    clear f2
    go_wp2_with fail
    go_ret
    exact ⟨rfl, FIN.out _ HF2.out⟩
  have d1 : decide ((80 : Int) < (n : Int)) = false := by rw [decide_eq_false_iff_not]; omega
  by_cases hsm : n' < n
  · have d2 : decide ((n' : Int) < (n : Int)) = true := by rw [decide_eq_true_eq]; omega
    go_wp2_with fail
    refine HA.out.mono ?_
    rintro e w2 ⟨rfl, f2⟩
    have HF2 := Lib.hid (HF1.out.trans f2)
    clear f2
    go_wp2_with fail
    go_ret
    exact ⟨rfl, FIN.out _ HF2.out⟩
  have d2 : decide ((n' : Int) < (n : Int)) = false := by rw [decide_eq_false_iff_not]; omega
  clear HA
  go_wp2_with fail
  clear d1 d2
  go_loopw [39] (fun i wr => ∃ (j : Nat) (ns : List N2), i = .int .i64 j ∧ j ≤ n ∧ SkL wr b hb hs ns ∧ (∀ x ∈ ns, x.v = true) ∧ ns.length ≤ j ∧ (∀ z, SkOn b hb hs ns z → W.heap.size ≤ z) ∧ Fr No W wr) (fun i _ => n - (intOf i).toNat)
  case atStart => exact ⟨0, [], rfl, Nat.zero_le _, HL1.out, fun x hx => (by cases hx), Nat.le_refl _, HLO.out, HF1.out⟩
  case round =>
    obtain ⟨j, ns, rfl, hj, L, hk, hle, hlo, hf⟩ := hrel
    by_cases hjn : j < n
    · obtain ⟨g, o, rfl, hx⟩ := HRD.out (by rw [HN.out]; omega)
      obtain ⟨g', o', rfl, hx'⟩ := HRD'.out (by rw [HN'.out]; omega)
      obtain ⟨x, hx0⟩ : ∃ x, l[j]? = some x := ⟨_, List.getElem?_eq_getElem (by rw [HN.out]; exact hjn)⟩
      obtain ⟨h, hh0⟩ : ∃ x, l'[j]? = some x := ⟨_, List.getElem?_eq_getElem (by rw [HN'.out]; omega)⟩
      have q0 := hf.cell (hx j x hx0).1 (fun h => h)
      have q1 := hf.cell (hx' j h hh0).1 (fun h => h)
      have HP := Lib.hid (put_c b hb hs ns x true h wr L (by omega))
      have HK := Lib.hid hk
      have HLO2 := Lib.hid hlo
      have HF := Lib.hid hf
      have d1 : decide ((j : Int) < (n : Int)) = true := by rw [decide_eq_true_eq]; omega
      have d3 : j < n' := by omega
      clear hx hx0 L hk hlo hf hx' hh0
      go_wp2_with fail
      refine HP.out.mono ?_
      rintro e w2 ⟨⟨ns', L2, on, hps⟩, f2⟩
      have HF2 := Lib.hid (HF.out.own HLO2.out f2)
      clear f2 q0 q1
      by_cases hbad : h < 1 ∨ 12 < h
      · obtain ⟨rfl, rfl⟩ := hps.bad hbad
        have HA := Lib.hid (awake_c w2)
        clear L2 on hps hbad
        go_wp2_with fail
        refine HA.out.mono ?_
        rintro e w3 ⟨rfl, f3⟩
        have HF3 := Lib.hid (HF2.out.trans f3)
        clear f3
        go_wp2_with fail
        go_ret
        exact ⟨rfl, FIN.out _ HF3.out⟩
      obtain ⟨hk2, hl2, bb, rfl⟩ := hps.keys hbad
      have HL2 := Lib.hid L2
      have HK2 := Lib.hid (hps.vals HK.out)
      have HLO3 : Hid (∀ z, SkOn b hb hs ns' z → W.heap.size ≤ z) := Lib.hid fun z hz => (on z hz).elim (HLO2.out z) (fun h => Nat.le_trans HF.out.size h)
      clear L2 on hps hk2 hbad
      go_wp2_with fail
      go_roundw
      case rel => exact ⟨j + 1, ns', by simp, by omega, HL2.out, HK2.out, by omega, HLO3.out, HF2.out⟩
      case measure => simp [intOf]; omega
    · obtain rfl : j = n := by omega
      have d1 : decide ((j : Int) < (j : Int)) = false := by simp
      have HL := Lib.hid L
      have HV := Lib.hid hk
      have HF := Lib.hid hf
      have HKY := Lib.hid (keys_c b hb hs ns wr L (by omega))
      have HSR := Lib.hid L.srt
      clear L hlo hk hf
      go_wp2_with fail
      refine HKY.out.mono ?_
      rintro e w2 ⟨⟨kv, rfl, hrow⟩, f2⟩
      have HF2 := Lib.hid (HF.out.trans f2)
      have HL2 := Lib.hid (HL.out.keep f2 (fun _ _ h => h))
      obtain ⟨ka, kc, rfl, kle, kmx, _, kcell⟩ := hrow.form
      unfold maxLen at kmx
      have KC : Hid (∀ t (ht : t < ns.length), ∃ g, ka = some ⟨g, 0, none⟩ ∧ w2.cell? ⟨g, t, none⟩ = some (.int .i64 (ns[t]).k)) := Lib.hid fun t ht => by
        obtain ⟨g, _, hg, hcell⟩ := kcell (by omega)
        exact ⟨g, hg, (hcell t (by omega)).1.trans (keysC_at t ht)⟩
      have HFI := Lib.hid (first_c b hb hs ns w2 HL2.out)
      clear f2 hrow kcell
      obtain ⟨m, hm0⟩ : ∃ m, ns.length = m := ⟨_, rfl⟩
      rw [hm0] at kle hle
      rw [hm0]
      have HM := Lib.hid hm0
      clear hm0
      go_wp2_with fail
      refine HFI.out.mono ?_
      rintro e w3 ⟨rfl, f3⟩
      have HF3 := Lib.hid (HF2.out.trans f3)
      have HG3 := Lib.hid f3
      rw [tell_parts]
      clear f3
      go_wp2_with fail
      go_loopw [11, 12, 13, 68] (fun k v ok i wr => ∃ t : Nat, i = .int .i64 t ∧ t ≤ m ∧ k = kV ns[t]? ∧ v = vV ns[t]? ∧ ok = okV ns[t]? ∧ Fr No w2 wr) (fun _ _ _ i _ => m - (intOf i).toNat)
      case atStart => exact ⟨0, rfl, Nat.zero_le _, by rw [List.head?_eq_getElem?], by rw [List.head?_eq_getElem?], by rw [List.head?_eq_getElem?], HG3.out⟩
      case round =>
        obtain ⟨t, rfl, ht, rfl, rfl, rfl, hfq⟩ := hrel
        have HFQ := Lib.hid hfq
        by_cases htm : t < m
        · have htm' : t < ns.length := by rw [HM.out]; exact htm
          obtain ⟨g, rfl, hg⟩ := KC.out t htm'
          have q0 := hfq.cell hg (fun h => h)
          have hv : (ns[t]).v = true := HV.out _ (List.getElem_mem htm')
          rw [List.getElem?_eq_getElem htm', show kV (some ns[t]) = .int .i64 (ns[t]).k from rfl, show vV (some ns[t]) = .bool (ns[t]).v from rfl, show okV (some ns[t]) = .bool true from rfl, hv]
          have HNX := Lib.hid (next_c b hb hs ns (ns[t]).k wr (HL2.out.keep hfq (fun _ _ h => h)))
          rw [next_at HSR.out t htm', tell_parts] at HNX
          obtain ⟨x, hx⟩ : ∃ x, (ns[t]).k = x := ⟨_, rfl⟩
          rw [hx] at HNX q0
          rw [hx]
          have d3 : decide ((t : Int) < (m : Int)) = true := by rw [decide_eq_true_eq]; omega
          have d4 : (x == x) = true := by simp
          clear hx hg hv hfq htm'
          go_wp2_with fail
          refine HNX.out.mono ?_
          rintro e w4 ⟨rfl, f4⟩
          have HF4 := Lib.hid (HFQ.out.trans f4)
          clear f4 q0
          go_wp2_with fail
          go_roundw
          case rel => exact ⟨t + 1, by simp, by omega, rfl, rfl, rfl, HF4.out⟩
          case measure => simp [intOf]; omega
        · obtain rfl : t = m := by omega
          have d3 : decide ((t : Int) < (t : Int)) = false := by simp
          rw [List.getElem?_eq_none (by rw [HM.out]; exact Nat.le_refl _), show kV none = .int .i64 0 from rfl, show vV none = .bool false from rfl, show okV none = .bool false from rfl]
          have HLA := Lib.hid (last_c b hb hs ns wr (HL2.out.keep hfq (fun _ _ h => h)))
          rw [last_back, HM.out, tell_parts] at HLA
          clear hfq
          go_wp2_with fail
          refine HLA.out.mono ?_
          rintro e w4 ⟨rfl, f4⟩
          have HF4 := Lib.hid (HFQ.out.trans f4)
          clear f4
          go_wp2_with fail
          go_loopw [11, 12, 13, 16] (fun k v ok i wr => ∃ s : Nat, i = .int .i64 ((s : Int) - 1) ∧ s ≤ t ∧ k = kV (backN ns s) ∧ v = vV (backN ns s) ∧ ok = okV (backN ns s) ∧ Fr No w2 wr) (fun _ _ _ i _ => (intOf i + 1).toNat)
          case atStart => exact ⟨t, rfl, Nat.le_refl _, rfl, rfl, rfl, HF4.out⟩
          case round =>
            obtain ⟨s, hi, hst, rfl, rfl, rfl, hfq⟩ := hrel
            have HFQ := Lib.hid hfq
            cases s with
            | succ s =>
              rw [show (((s + 1 : Nat) : Int) - 1) = (s : Int) by omega] at hi
              subst hi
              have hsm' : s < ns.length := by rw [HM.out]; omega
              obtain ⟨g, rfl, hg⟩ := KC.out s hsm'
              have q0 := hfq.cell hg (fun h => h)
              have hv : (ns[s]).v = true := HV.out _ (List.getElem_mem hsm')
              rw [show backN ns (s + 1) = ns[s]? from rfl, List.getElem?_eq_getElem hsm', show kV (some ns[s]) = .int .i64 (ns[s]).k from rfl, show vV (some ns[s]) = .bool (ns[s]).v from rfl, show okV (some ns[s]) = .bool true from rfl, hv]
              have HNX := Lib.hid (prev_c b hb hs ns (ns[s]).k wr (HL2.out.keep hfq (fun _ _ h => h)))
              rw [prev_at HSR.out s hsm', tell_parts] at HNX
              obtain ⟨x, hx⟩ : ∃ x, (ns[s]).k = x := ⟨_, rfl⟩
              rw [hx] at HNX q0
              rw [hx]
              have d4 : (x == x) = true := by simp
              clear hx hg hv hfq hsm'
              go_wp2_with fail
              refine HNX.out.mono ?_
              rintro e w5 ⟨rfl, f5⟩
              have HF5 := Lib.hid (HFQ.out.trans f5)
              clear f5 q0
              go_wp2_with fail
              go_roundw
              case rel => exact ⟨s, rfl, by omega, rfl, rfl, rfl, HF5.out⟩
              case measure => show (intOf (.int .i64 ((s : Int) - 1)) + 1).toNat < (intOf (.int .i64 (s : Int)) + 1).toNat
                              simp [intOf]
                              try omega
            | zero =>
              rw [show (((0 : Nat) : Int) - 1) = -1 by omega] at hi
              subst hi
              rw [show backN ns 0 = none from rfl, show kV none = .int .i64 0 from rfl, show vV none = .bool false from rfl, show okV none = .bool false from rfl]
              have HLN := Lib.hid (len_c (HL2.out.keep hfq (fun _ _ h => h)))
              rw [HM.out] at HLN
              clear hfq
              have d5 : ((t : Int) == (t : Int)) = true := by simp
              go_wp2_with fail
              refine HLN.out.mono ?_
              rintro e w5 ⟨rfl, rfl⟩
              have HA := Lib.hid (awake_c wr)
              go_wp2_with fail
              refine HA.out.mono ?_
              rintro e w6 ⟨rfl, f6⟩
              have HF6 := Lib.hid ((HF2.out.trans HFQ.out).trans f6)
              clear f6
              go_wp2_with fail
              go_ret
              exact ⟨rfl, FIN.out _ HF6.out⟩
end Go.Proofs.Ytdnaebbfbkdjoaa
