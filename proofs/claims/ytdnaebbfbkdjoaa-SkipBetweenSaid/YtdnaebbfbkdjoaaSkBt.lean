/-
  Layer 5: the walk of SkipBetween.
-/
import Derived.Test.YtdnaebbfbkdjoaaSkY
import Derived.Test.YtdnaebbfbkdjoaaOpenL
namespace Go.Proofs.Ytdnaebbfbkdjoaa
set_option linter.unusedVariables false
open Go.RowKit

namespace KI
theorem tell_letters (o : Option N2) : ∃ a b c, tellV o = .tuple #[.int .i64 a, .int .i64 b, .bool c] := by
  cases o with
  | none => exact ⟨0, 0, false, rfl⟩
  | some y => exact ⟨y.k, y.v, true, rfl⟩
theorem ceil_gt {ns : List N2} {k : Int} {c : N2} (h : ceilN ltI ns k = some c) (hn : ∀ x ∈ ns, x.k ≠ k) : c ∈ ns ∧ k < c.k := by
  have h1 := List.find?_some h
  have h2 := List.mem_of_find?_eq_some h
  have := hn c h2
  refine ⟨h2, ?_⟩
  simp [ltI] at h1
  omega
theorem ceil_le {ns : List N2} {k : Int} {c : N2} (hs : Sorted ltI ns) (h : ceilN ltI ns k = some c) {x : N2} (hx : x ∈ ns) (hk : k < x.k) : c.k ≤ x.k := by
  rcases find_least hs h hx (by simp [ltI]; omega) with rfl | h2
  · exact Int.le_refl _
  · simp [ltI] at h2
    omega
theorem ceil_no {ns : List N2} {k : Int} (h : ceilN ltI ns k = none) {x : N2} (hx : x ∈ ns) : x.k < k := by
  have := List.find?_eq_none.1 h x hx
  simp [ltI] at this
  omega
theorem prev_lt {ns : List N2} {k : Int} {f : N2} (h : prevN ltI ns k = some f) : f ∈ ns ∧ f.k < k := by
  obtain ⟨h1, h2⟩ := lastN_mem h
  exact ⟨h1, by simpa [ltI] using h2⟩
theorem prev_ge {ns : List N2} {k : Int} {f : N2} (hs : Sorted ltI ns) (h : prevN ltI ns k = some f) {x : N2} (hx : x ∈ ns) (hk : x.k < k) : x.k ≤ f.k := by
  rcases lastN_most hs h hx (by simpa [ltI] using hk) with rfl | h2
  · exact Int.le_refl _
  · simp [ltI] at h2
    omega
theorem prev_no {ns : List N2} {k : Int} (h : prevN ltI ns k = none) {x : N2} (hx : x ∈ ns) : k ≤ x.k := by
  have := lastN_none_iff h x hx
  simp [ltI] at this
  omega
end KI
open KI in
set_option maxRecDepth 20000 in
set_option maxHeartbeats 8000000 in
theorem skipBetween_walk (W : World) (a : Option Addr) (cap : Nat) (l : List Int) (hc : l.length ≤ cap) (hm : cap ≤ maxLen) (rd : Ints W a l) (k : Int) (wf : (Lit.int .i64 k).wf = true) :
    Calls Try.prog 8 #[.slice a l.length cap, .int .i64 k] W fun e w' => e = .returned (.bool true) ∧ Below W.heap.size W w' := by
  have HRD := Lib.hid rd
  unfold maxLen at hm
  obtain ⟨n, hn⟩ : ∃ n, l.length = n := ⟨_, rfl⟩
  rw [hn] at hc
  rw [hn]
  have HN := Lib.hid hn
  have HC := Lib.hid (new_c W)
  clear rd hn wf
  have fin : ∀ w' : World, Fr No W w' → Below W.heap.size W w' := fun w' f => f.below (Nat.le_refl _) (fun _ h => h.elim)
  have FIN := Lib.hid fin
  clear fin
  go_enter Try.func8, Try.ntmps8
  go_wp2_with fail
  refine HC.out.mono ?_
  rintro e w1 ⟨⟨b, hb, hs, rfl, L1, low⟩, f1⟩
  have HL1 := Lib.hid L1
  have HLO := Lib.hid low
  have HF1 := Lib.hid f1
  clear L1 low f1
  by_cases hbig : 60 < n
  · have d1 : decide ((60 : Int) < (n : Int)) = true := by rw [decide_eq_true_eq]; omega
    have HA := Lib.hid (awake_c w1)
    go_wp2_with fail
    refine HA.out.mono ?_
    rintro e w2 ⟨rfl, f2⟩
    have HF2 := Lib.hid (HF1.out.trans f2)
    clear f2
    go_wp2_with fail
    go_ret
    exact ⟨rfl, FIN.out _ HF2.out⟩
  have d1 : decide ((60 : Int) < (n : Int)) = false := by rw [decide_eq_false_iff_not]; omega
  go_wp2_with fail
  clear d1
  go_loopw [36] (fun i wr => ∃ (j : Nat) (ns : List N2), i = .int .i64 j ∧ j ≤ n ∧ SkL wr b hb hs ns ∧ (∀ x, (∃ m ∈ ns, m.k = x) ↔ x ∈ l.take j) ∧ ns.length ≤ j ∧ (∀ z, SkOn b hb hs ns z → W.heap.size ≤ z) ∧ Fr No W wr) (fun i _ => n - (intOf i).toNat)
  case atStart => exact ⟨0, [], rfl, Nat.zero_le _, HL1.out, fun x => by simp, Nat.le_refl _, HLO.out, HF1.out⟩
  case round =>
    obtain ⟨j, ns, rfl, hj, L, hk, hle, hlo, hf⟩ := hrel
    by_cases hjn : j < n
    · obtain ⟨g, o, rfl, hx⟩ := HRD.out (by rw [HN.out]; omega)
      obtain ⟨x, hx0⟩ : ∃ x, l[j]? = some x := ⟨_, List.getElem?_eq_getElem (by rw [HN.out]; exact hjn)⟩
      have q0 := hf.cell (hx j x hx0).1 (fun h => h)
      have HX0 := Lib.hid hx0
      have HP := Lib.hid (put_c b hb hs ns x (j : Int) (1 + (j : Int) * 5 % 12) wr L (by omega))
      have HK := Lib.hid hk
      have HLO2 := Lib.hid hlo
      have HF := Lib.hid hf
      have d1 : decide ((j : Int) < (n : Int)) = true := by rw [decide_eq_true_eq]; omega
      clear hx hx0 L hk hlo hf
      go_wp2_with fail
      refine HP.out.mono ?_
      rintro e w2 ⟨⟨ns', L2, on, hps⟩, f2⟩
      obtain ⟨hk2, hl2, bb, rfl⟩ := hps.keys (by omega)
      have HL2 := Lib.hid L2
      have HF2 := Lib.hid (HF.out.own HLO2.out f2)
      have HK2 : Hid (∀ x', (∃ m ∈ ns', m.k = x') ↔ x' ∈ l.take (j + 1)) := Lib.hid fun x' => by
        rw [hk2, HK.out, List.take_add_one, HX0.out]
        simp [or_comm]
      have HLO3 : Hid (∀ z, SkOn b hb hs ns' z → W.heap.size ≤ z) := Lib.hid fun z hz => (on z hz).elim (HLO2.out z) (fun h => Nat.le_trans HF.out.size h)
      clear L2 on hps f2 hk2 q0
      go_wp2_with fail
      go_roundw
      case rel => exact ⟨j + 1, ns', by simp, by omega, HL2.out, HK2.out, by omega, HLO3.out, HF2.out⟩
      case measure => simp [intOf]; omega
    · obtain rfl : j = n := by omega
      have d1 : decide ((j : Int) < (j : Int)) = false := by simp
      have HL := Lib.hid L
      have HLO2 := Lib.hid hlo
      have HK : Hid (∀ x, (∃ m ∈ ns, m.k = x) ↔ x ∈ l) := Lib.hid (by
        rw [← HN.out, List.take_length] at hk
        exact hk)
      have HF := Lib.hid hf
      have HFL := Lib.hid (floor_c b hb hs ns k wr L)
      clear L hlo hk hf hle
      cases hG : getN ns k with
      | some y =>
        have hyk : y.k = k := of_decide_eq_true (List.find?_some (p := fun y : N2 => decide (y.k = k)) hG)
        have hym : y ∈ ns := List.mem_of_find?_eq_some hG
        have e1 := floor_there ordI HL.out.srt hym
        have e2 := ceil_of_mem ordI HL.out.srt hym
        rw [hyk] at e1 e2
        rw [e1, show tellV (some y) = .tuple #[.int .i64 y.k, .int .i64 y.v, .bool true] from rfl, hyk] at HFL
        have HE2 := Lib.hid e2
        have HG := Lib.hid hG
        have HYK := Lib.hid hyk
        clear e1 e2 hG hyk hym
        go_wp2_with fail
        refine HFL.out.mono ?_
        rintro e w2 ⟨rfl, f2⟩
        have HF2 := Lib.hid (HF.out.trans f2)
        have HL2 := Lib.hid (HL.out.keep f2 (fun _ _ h => h))
        have HCE := Lib.hid (ceilT_c b hb hs ns k w2 HL2.out)
        rw [HE2.out, show tellV (some y) = .tuple #[.int .i64 y.k, .int .i64 y.v, .bool true] from rfl, HYK.out] at HCE
        clear f2
        go_wp2_with fail
        refine HCE.out.mono ?_
        rintro e w3 ⟨rfl, f3⟩
        have HF3 := Lib.hid (HF2.out.trans f3)
        have HL3 := Lib.hid (HL2.out.keep f3 (fun _ _ h => h))
        have HGE := Lib.hid (get_c b hb hs ns k w3 HL3.out)
        rw [HG.out, show getR (some y) = .tuple #[.int .i64 y.v, .bool true] from rfl] at HGE
        clear f3
        go_wp2_with fail
        refine HGE.out.mono ?_
        rintro e w4 ⟨rfl, f4⟩
        have HF4 := Lib.hid (HF3.out.trans f4)
        have HA := Lib.hid (awake_c w4)
        have d5 : (k == k) = true := by simp
        clear f4
        go_wp2_with fail
        refine HA.out.mono ?_
        rintro e w5 ⟨rfl, f5⟩
        have HF5 := Lib.hid (HF4.out.trans f5)
        clear f5
        go_wp2_with fail
        go_ret
        exact ⟨rfl, FIN.out _ HF5.out⟩
      | none =>
        have hab : ∀ x ∈ ns, x.k ≠ k := fun x hx e => by
          have := List.find?_eq_none.1 hG x hx
          exact this (decide_eq_true e)
        have HAB := Lib.hid hab
        have hfp := floor_absent ordI hab
        rw [hfp] at HFL
        have HG := Lib.hid hG
        clear hab hfp hG
        cases hP : prevN ltI ns k with
        | some f =>
          cases hC : ceilN ltI ns k with
          | some c =>
            have HP := Lib.hid hP
            have HCN := Lib.hid hC
            rw [HP.out, show tellV (some f) = .tuple #[.int .i64 f.k, .int .i64 f.v, .bool true] from rfl] at HFL
            have HFM := Lib.hid (prev_lt hP)
            have e1 : decide (k ≤ f.k) = false := by rw [decide_eq_false_iff_not]; have := (prev_lt hP).2; omega
            have HCM := Lib.hid (ceil_gt hC HAB.out)
            have e2 : decide (c.k ≤ k) = false := by rw [decide_eq_false_iff_not]; have := (ceil_gt hC HAB.out).2; omega
            clear hP hC
            go_wp2_with fail
            refine HFL.out.mono ?_
            rintro e w2 ⟨rfl, f2⟩
            have HF2 := Lib.hid (HF.out.trans f2)
            have HL2 := Lib.hid (HL.out.keep f2 (fun _ _ h => h))
            have HCE := Lib.hid (ceilT_c b hb hs ns k w2 HL2.out)
            rw [HCN.out, show tellV (some c) = .tuple #[.int .i64 c.k, .int .i64 c.v, .bool true] from rfl] at HCE
            clear f2
            go_wp2_with fail
            refine HCE.out.mono ?_
            rintro e w3 ⟨rfl, f3⟩
            have HF3 := Lib.hid (HF2.out.trans f3)
            have HL3 := Lib.hid (HL2.out.keep f3 (fun _ _ h => h))
            have HGE := Lib.hid (get_c b hb hs ns k w3 HL3.out)
            rw [HG.out, show getR (none : Option N2) = .tuple #[.int .i64 0, .bool false] from rfl] at HGE
            clear f3
            go_wp2_with fail
            refine HGE.out.mono ?_
            rintro e w4 ⟨rfl, f4⟩
            have HF4 := Lib.hid (HF3.out.trans f4)
            have HL4 := Lib.hid (HL3.out.keep f4 (fun _ _ h => h))
            clear f4
            go_wp2_with fail
            go_loopw [104] (fun i wq => ∃ t : Nat, i = .int .i64 t ∧ t ≤ j ∧ w4 = wq) (fun i _ => j - (intOf i).toNat)
            case atStart => exact ⟨0, rfl, Nat.zero_le _, rfl⟩
            case round =>
              obtain ⟨t, rfl, ht, rfl⟩ := hrel
              by_cases htj : t < j
              · have g1 : decide ((t : Int) < (j : Int)) = true := by rw [decide_eq_true_eq]; omega
                obtain ⟨g, o, rfl, hx⟩ := HRD.out (by rw [HN.out]; omega)
                obtain ⟨x, hx0⟩ : ∃ x, l[t]? = some x := ⟨_, List.getElem?_eq_getElem (by rw [HN.out]; exact htj)⟩
                have q0 := HF4.out.cell (hx t x hx0).1 (fun h => h)
                obtain ⟨m, hm1, hm2⟩ := (HK.out x).2 (List.mem_of_getElem? hx0)
                have hne := HAB.out m hm1
                rw [hm2] at hne
                by_cases hlt : x < k
                · have hlt : x < k := hlt
                  have g2 : decide (f.k < x) = false := by rw [decide_eq_false_iff_not]; have := prev_ge HL.out.srt HP.out hm1 (by omega); omega
                  have g4 : decide (x < c.k) = true := by rw [decide_eq_true_eq]; have := HCM.out.2; omega
                  have g3 : decide (x < k) = true := by rw [decide_eq_true_eq]; omega
                  have g5 : decide (k < x) = false := by rw [decide_eq_false_iff_not]; omega
                  clear hx hx0 hm1 hm2 hne
                  go_wp2_with fail
                  go_roundw
                  case rel => exact ⟨t + 1, by simp, by omega, by simp⟩
                  case measure => simp [intOf]; omega
                · have hgt : k < x := by omega
                  have g4 : decide (x < c.k) = false := by rw [decide_eq_false_iff_not]; have := ceil_le HL.out.srt HCN.out hm1 (by omega); omega
                  have g2 : decide (f.k < x) = true := by rw [decide_eq_true_eq]; have := HFM.out.2; omega
                  have g3 : decide (x < k) = false := by rw [decide_eq_false_iff_not]; omega
                  have g5 : decide (k < x) = true := by rw [decide_eq_true_eq]; omega
                  clear hx hx0 hm1 hm2 hne
                  go_wp2_with fail
                  go_roundw
                  case rel => exact ⟨t + 1, by simp, by omega, by simp⟩
                  case measure => simp [intOf]; omega
              · obtain rfl : t = j := by omega
                have g1 : decide ((t : Int) < (t : Int)) = false := by simp
                have HNX := Lib.hid (next_c b hb hs ns f.k w4 HL4.out)
                rw [next_prev ordI HL.out.srt HP.out, HCN.out, show tellV (some c) = .tuple #[.int .i64 c.k, .int .i64 c.v, .bool true] from rfl] at HNX
                have g6 : (c.k == c.k) = true := by simp
                go_wp2_with fail
                refine HNX.out.mono ?_
                rintro e w5 ⟨rfl, f5⟩
                have HF5 := Lib.hid (HF4.out.trans f5)
                have HA := Lib.hid (awake_c w5)
                clear f5
                go_wp2_with fail
                refine HA.out.mono ?_
                rintro e w6 ⟨rfl, f6⟩
                have HF6 := Lib.hid (HF5.out.trans f6)
                clear f6
                go_wp2_with fail
                go_ret
                exact ⟨rfl, FIN.out _ HF6.out⟩
          | none =>
            have HP := Lib.hid hP
            have HCN := Lib.hid hC
            rw [HP.out, show tellV (some f) = .tuple #[.int .i64 f.k, .int .i64 f.v, .bool true] from rfl] at HFL
            have HFM := Lib.hid (prev_lt hP)
            have e1 : decide (k ≤ f.k) = false := by rw [decide_eq_false_iff_not]; have := (prev_lt hP).2; omega
            clear hP hC
            go_wp2_with fail
            refine HFL.out.mono ?_
            rintro e w2 ⟨rfl, f2⟩
            have HF2 := Lib.hid (HF.out.trans f2)
            have HL2 := Lib.hid (HL.out.keep f2 (fun _ _ h => h))
            have HCE := Lib.hid (ceilT_c b hb hs ns k w2 HL2.out)
            rw [HCN.out, show tellV (none : Option N2) = .tuple #[.int .i64 0, .int .i64 0, .bool false] from rfl] at HCE
            clear f2
            go_wp2_with fail
            refine HCE.out.mono ?_
            rintro e w3 ⟨rfl, f3⟩
            have HF3 := Lib.hid (HF2.out.trans f3)
            have HL3 := Lib.hid (HL2.out.keep f3 (fun _ _ h => h))
            have HGE := Lib.hid (get_c b hb hs ns k w3 HL3.out)
            rw [HG.out, show getR (none : Option N2) = .tuple #[.int .i64 0, .bool false] from rfl] at HGE
            clear f3
            go_wp2_with fail
            refine HGE.out.mono ?_
            rintro e w4 ⟨rfl, f4⟩
            have HF4 := Lib.hid (HF3.out.trans f4)
            have HL4 := Lib.hid (HL3.out.keep f4 (fun _ _ h => h))
            clear f4
            go_wp2_with fail
            go_loopw [104] (fun i wq => ∃ t : Nat, i = .int .i64 t ∧ t ≤ j ∧ w4 = wq) (fun i _ => j - (intOf i).toNat)
            case atStart => exact ⟨0, rfl, Nat.zero_le _, rfl⟩
            case round =>
              obtain ⟨t, rfl, ht, rfl⟩ := hrel
              by_cases htj : t < j
              · have g1 : decide ((t : Int) < (j : Int)) = true := by rw [decide_eq_true_eq]; omega
                obtain ⟨g, o, rfl, hx⟩ := HRD.out (by rw [HN.out]; omega)
                obtain ⟨x, hx0⟩ : ∃ x, l[t]? = some x := ⟨_, List.getElem?_eq_getElem (by rw [HN.out]; exact htj)⟩
                have q0 := HF4.out.cell (hx t x hx0).1 (fun h => h)
                obtain ⟨m, hm1, hm2⟩ := (HK.out x).2 (List.mem_of_getElem? hx0)
                have hne := HAB.out m hm1
                rw [hm2] at hne
                by_cases hlt : x < k
                · have hlt : x < k := hlt
                  have g2 : decide (f.k < x) = false := by rw [decide_eq_false_iff_not]; have := prev_ge HL.out.srt HP.out hm1 (by omega); omega
                  have g3 : decide (x < k) = true := by rw [decide_eq_true_eq]; omega
                  have g5 : decide (k < x) = false := by rw [decide_eq_false_iff_not]; omega
                  clear hx hx0 hm1 hm2 hne
                  go_wp2_with fail
                  go_roundw
                  case rel => exact ⟨t + 1, by simp, by omega, by simp⟩
                  case measure => simp [intOf]; omega
                · have hgt : k < x := by omega
                  exact absurd (ceil_no HCN.out hm1) (by omega)
              · obtain rfl : t = j := by omega
                have g1 : decide ((t : Int) < (t : Int)) = false := by simp
                have HNX := Lib.hid (next_c b hb hs ns f.k w4 HL4.out)
                rw [next_prev ordI HL.out.srt HP.out, HCN.out, show tellV (none : Option N2) = .tuple #[.int .i64 0, .int .i64 0, .bool false] from rfl] at HNX
                go_wp2_with fail
                refine HNX.out.mono ?_
                rintro e w5 ⟨rfl, f5⟩
                have HF5 := Lib.hid (HF4.out.trans f5)
                have HA := Lib.hid (awake_c w5)
                clear f5
                go_wp2_with fail
                refine HA.out.mono ?_
                rintro e w6 ⟨rfl, f6⟩
                have HF6 := Lib.hid (HF5.out.trans f6)
                clear f6
                go_wp2_with fail
                go_ret
                exact ⟨rfl, FIN.out _ HF6.out⟩
        | none =>
          cases hC : ceilN ltI ns k with
          | some c =>
            have HP := Lib.hid hP
            have HCN := Lib.hid hC
            rw [HP.out, show tellV (none : Option N2) = .tuple #[.int .i64 0, .int .i64 0, .bool false] from rfl] at HFL
            have HCM := Lib.hid (ceil_gt hC HAB.out)
            have e2 : decide (c.k ≤ k) = false := by rw [decide_eq_false_iff_not]; have := (ceil_gt hC HAB.out).2; omega
            clear hP hC
            go_wp2_with fail
            refine HFL.out.mono ?_
            rintro e w2 ⟨rfl, f2⟩
            have HF2 := Lib.hid (HF.out.trans f2)
            have HL2 := Lib.hid (HL.out.keep f2 (fun _ _ h => h))
            have HCE := Lib.hid (ceilT_c b hb hs ns k w2 HL2.out)
            rw [HCN.out, show tellV (some c) = .tuple #[.int .i64 c.k, .int .i64 c.v, .bool true] from rfl] at HCE
            clear f2
            go_wp2_with fail
            refine HCE.out.mono ?_
            rintro e w3 ⟨rfl, f3⟩
            have HF3 := Lib.hid (HF2.out.trans f3)
            have HL3 := Lib.hid (HL2.out.keep f3 (fun _ _ h => h))
            have HGE := Lib.hid (get_c b hb hs ns k w3 HL3.out)
            rw [HG.out, show getR (none : Option N2) = .tuple #[.int .i64 0, .bool false] from rfl] at HGE
            clear f3
            go_wp2_with fail
            refine HGE.out.mono ?_
            rintro e w4 ⟨rfl, f4⟩
            have HF4 := Lib.hid (HF3.out.trans f4)
            have HL4 := Lib.hid (HL3.out.keep f4 (fun _ _ h => h))
            clear f4
            go_wp2_with fail
            go_loopw [104] (fun i wq => ∃ t : Nat, i = .int .i64 t ∧ t ≤ j ∧ w4 = wq) (fun i _ => j - (intOf i).toNat)
            case atStart => exact ⟨0, rfl, Nat.zero_le _, rfl⟩
            case round =>
              obtain ⟨t, rfl, ht, rfl⟩ := hrel
              by_cases htj : t < j
              · have g1 : decide ((t : Int) < (j : Int)) = true := by rw [decide_eq_true_eq]; omega
                obtain ⟨g, o, rfl, hx⟩ := HRD.out (by rw [HN.out]; omega)
                obtain ⟨x, hx0⟩ : ∃ x, l[t]? = some x := ⟨_, List.getElem?_eq_getElem (by rw [HN.out]; exact htj)⟩
                have q0 := HF4.out.cell (hx t x hx0).1 (fun h => h)
                obtain ⟨m, hm1, hm2⟩ := (HK.out x).2 (List.mem_of_getElem? hx0)
                have hne := HAB.out m hm1
                rw [hm2] at hne
                by_cases hlt : x < k
                · have hlt : x < k := hlt
                  exact absurd (prev_no HP.out hm1) (by omega)
                · have hgt : k < x := by omega
                  have g4 : decide (x < c.k) = false := by rw [decide_eq_false_iff_not]; have := ceil_le HL.out.srt HCN.out hm1 (by omega); omega
                  have g3 : decide (x < k) = false := by rw [decide_eq_false_iff_not]; omega
                  have g5 : decide (k < x) = true := by rw [decide_eq_true_eq]; omega
                  clear hx hx0 hm1 hm2 hne
                  go_wp2_with fail
                  go_roundw
                  case rel => exact ⟨t + 1, by simp, by omega, by simp⟩
                  case measure => simp [intOf]; omega
              · obtain rfl : t = j := by omega
                have g1 : decide ((t : Int) < (t : Int)) = false := by simp
                have HNX := Lib.hid (next_c b hb hs ns 0 w4 HL4.out)
                obtain ⟨u1, u2, u3, hu⟩ := tell_letters (nextN ltI ns 0)
                rw [hu] at HNX
                clear hu
                go_wp2_with fail
                refine HNX.out.mono ?_
                rintro e w5 ⟨rfl, f5⟩
                have HF5 := Lib.hid (HF4.out.trans f5)
                have HA := Lib.hid (awake_c w5)
                clear f5
                go_wp2_with fail
                refine HA.out.mono ?_
                rintro e w6 ⟨rfl, f6⟩
                have HF6 := Lib.hid (HF5.out.trans f6)
                clear f6
                go_wp2_with fail
                go_ret
                exact ⟨rfl, FIN.out _ HF6.out⟩
          | none =>
            have HP := Lib.hid hP
            have HCN := Lib.hid hC
            rw [HP.out, show tellV (none : Option N2) = .tuple #[.int .i64 0, .int .i64 0, .bool false] from rfl] at HFL
            clear hP hC
            go_wp2_with fail
            refine HFL.out.mono ?_
            rintro e w2 ⟨rfl, f2⟩
            have HF2 := Lib.hid (HF.out.trans f2)
            have HL2 := Lib.hid (HL.out.keep f2 (fun _ _ h => h))
            have HCE := Lib.hid (ceilT_c b hb hs ns k w2 HL2.out)
            rw [HCN.out, show tellV (none : Option N2) = .tuple #[.int .i64 0, .int .i64 0, .bool false] from rfl] at HCE
            clear f2
            go_wp2_with fail
            refine HCE.out.mono ?_
            rintro e w3 ⟨rfl, f3⟩
            have HF3 := Lib.hid (HF2.out.trans f3)
            have HL3 := Lib.hid (HL2.out.keep f3 (fun _ _ h => h))
            have HGE := Lib.hid (get_c b hb hs ns k w3 HL3.out)
            rw [HG.out, show getR (none : Option N2) = .tuple #[.int .i64 0, .bool false] from rfl] at HGE
            clear f3
            go_wp2_with fail
            refine HGE.out.mono ?_
            rintro e w4 ⟨rfl, f4⟩
            have HF4 := Lib.hid (HF3.out.trans f4)
            have HL4 := Lib.hid (HL3.out.keep f4 (fun _ _ h => h))
            clear f4
            go_wp2_with fail
            go_loopw [104] (fun i wq => ∃ t : Nat, i = .int .i64 t ∧ t ≤ j ∧ w4 = wq) (fun i _ => j - (intOf i).toNat)
            case atStart => exact ⟨0, rfl, Nat.zero_le _, rfl⟩
            case round =>
              obtain ⟨t, rfl, ht, rfl⟩ := hrel
              by_cases htj : t < j
              · have g1 : decide ((t : Int) < (j : Int)) = true := by rw [decide_eq_true_eq]; omega
                obtain ⟨g, o, rfl, hx⟩ := HRD.out (by rw [HN.out]; omega)
                obtain ⟨x, hx0⟩ : ∃ x, l[t]? = some x := ⟨_, List.getElem?_eq_getElem (by rw [HN.out]; exact htj)⟩
                have q0 := HF4.out.cell (hx t x hx0).1 (fun h => h)
                obtain ⟨m, hm1, hm2⟩ := (HK.out x).2 (List.mem_of_getElem? hx0)
                have hne := HAB.out m hm1
                rw [hm2] at hne
                by_cases hlt : x < k
                · have hlt : x < k := hlt
                  exact absurd (prev_no HP.out hm1) (by omega)
                · have hgt : k < x := by omega
                  exact absurd (ceil_no HCN.out hm1) (by omega)
              · obtain rfl : t = j := by omega
                have g1 : decide ((t : Int) < (t : Int)) = false := by simp
                have HNX := Lib.hid (next_c b hb hs ns 0 w4 HL4.out)
                obtain ⟨u1, u2, u3, hu⟩ := tell_letters (nextN ltI ns 0)
                rw [hu] at HNX
                clear hu
                go_wp2_with fail
                refine HNX.out.mono ?_
                rintro e w5 ⟨rfl, f5⟩
                have HF5 := Lib.hid (HF4.out.trans f5)
                have HA := Lib.hid (awake_c w5)
                clear f5
                go_wp2_with fail
                refine HA.out.mono ?_
                rintro e w6 ⟨rfl, f6⟩
                have HF6 := Lib.hid (HF5.out.trans f6)
                clear f6
                go_wp2_with fail
                go_ret
                exact ⟨rfl, FIN.out _ HF6.out⟩
end Go.Proofs.Ytdnaebbfbkdjoaa
