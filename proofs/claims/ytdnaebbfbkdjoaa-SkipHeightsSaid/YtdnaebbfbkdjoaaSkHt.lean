/-
  Layer 5: the walk of SkipHeights.
-/
import Derived.Test.YtdnaebbfbkdjoaaSkY
import Derived.Test.YtdnaebbfbkdjoaaSkXS
import Derived.Test.YtdnaebbfbkdjoaaOpenL
namespace Go.Proofs.Ytdnaebbfbkdjoaa
set_option linter.unusedVariables false
open Go.RowKit

namespace KS
def kvN (x : N2) : ByteArray × Int := (x.k, x.v)
def insP (p : ByteArray × Int) : List (ByteArray × Int) → List (ByteArray × Int)
  | [] => [p]
  | q :: qs => if ltS p.1 q.1 then p :: q :: qs else q :: insP p qs
theorem kv_ins (nd : N2) : ∀ ns : List N2, (insN ltS nd ns).map kvN = insP (kvN nd) (ns.map kvN)
  | [] => rfl
  | x :: xs => by
    have ih := kv_ins nd xs
    show (if ltS nd.k x.k then nd :: x :: xs else x :: insN ltS nd xs).map kvN = if ltS nd.k x.k then _ else _
    split
    · rfl
    · rw [List.map_cons, ih]
theorem kv_set {w : World} {b hb hs : Nat} {ns : List N2} (H : SkL w b hb hs ns) {x : N2} (hx : x ∈ ns) (v : Int) :
    (ns.map (setN x.b v)).map kvN = (ns.map kvN).map fun p => if p.1 = x.k then (p.1, v) else p := by
  rw [List.map_map, List.map_map]
  refine List.map_congr_left fun y hy => ?_
  show ((setN x.b v y).k, (setN x.b v y).v) = if y.k = x.k then (y.k, v) else (y.k, y.v)
  rw [setN_k]
  by_cases e : y.k = x.k
  · rw [if_pos e]
    obtain rfl := sorted_key ordS H.srt hy hx e
    unfold setN
    rw [if_pos rfl]
  · rw [if_neg e]
    unfold setN
    rw [if_neg (fun e2 => e (by rw [H.inj y hy x hx (.inl e2)]))]
theorem kv_key {ns1 ns2 : List N2} (h : ns1.map kvN = ns2.map kvN) {x : N2} (hx : x ∈ ns1) : ∃ y ∈ ns2, y.k = x.k := by
  have h1 : kvN x ∈ ns2.map kvN := h ▸ List.mem_map_of_mem hx
  obtain ⟨y, hy, e⟩ := List.mem_map.1 h1
  exact ⟨y, hy, congrArg Prod.fst e⟩
/-- The same put on two lists that tell the same. -/
theorem put_alike {w1 w2 : World} {b1 hb1 hs1 b2 hb2 hs2 : Nat} {ns1 ns2 ns1' ns2' : List N2} {k : ByteArray} {v h1 h2 : Int} {e1 e2 : Ending} (L1 : SkL w1 b1 hb1 hs1 ns1) (L2 : SkL w2 b2 hb2 hs2 ns2) (hkv : ns1.map kvN = ns2.map kvN)
    (p1 : PutS ns1 k v h1 e1 ns1') (p2 : PutS ns2 k v h2 e2 ns2') (g1 : ¬ (h1 < 1 ∨ 12 < h1)) (g2 : ¬ (h2 < 1 ∨ 12 < h2)) :
    ns1'.map kvN = ns2'.map kvN ∧ ∃ b, e1 = .returned (.tuple #[.bool b, .int .i64 0]) ∧ e2 = .returned (.tuple #[.bool b, .int .i64 0]) := by
  rcases p1 with ⟨h, _⟩ | ⟨_, x, hx, hk, he1, rfl⟩ | ⟨_, hn, nd, hk, hv, _, he1, rfl⟩
  · exact absurd h g1
  · rcases p2 with ⟨h, _⟩ | ⟨_, y, hy, hk2, he2, rfl⟩ | ⟨_, hn, _⟩
    · exact absurd h g2
    · refine ⟨?_, false, he1, he2⟩
      rw [kv_set L1 hx, kv_set L2 hy, hkv, hk, hk2]
    · obtain ⟨y, hy, e⟩ := kv_key hkv hx
      exact absurd (e.trans hk) (hn y hy)
  · rcases p2 with ⟨h, _⟩ | ⟨_, y, hy, hk2, _⟩ | ⟨_, _, nd2, hk2, hv2, _, he2, rfl⟩
    · exact absurd h g2
    · obtain ⟨x, hx, e⟩ := kv_key hkv.symm hy
      exact absurd (e.trans hk2) (hn x hx)
    · refine ⟨?_, true, he1, he2⟩
      rw [kv_ins, kv_ins, hkv]
      unfold kvN
      rw [hk, hk2, hv, hv2]
theorem kv_at {ns1 ns2 : List N2} (h : ns1.map kvN = ns2.map kvN) (t : Nat) (h1 : t < ns1.length) (h2 : t < ns2.length) : (ns2[t]).k = (ns1[t]).k ∧ (ns2[t]).v = (ns1[t]).v := by
  have e : (ns1.map kvN)[t]? = (ns2.map kvN)[t]? := by rw [h]
  rw [List.getElem?_map, List.getElem?_map, List.getElem?_eq_getElem h1, List.getElem?_eq_getElem h2] at e
  have e : kvN (ns1[t]) = kvN (ns2[t]) := Option.some.inj e
  exact ⟨(congrArg Prod.fst e).symm, (congrArg Prod.snd e).symm⟩
end KS
theorem geqS (a b : ByteArray) (h : Op.bytesLess a.toList b.toList = true) (w : World) : (binOp .geq 9 (.string a) (.string b)).run Try.prog w = .ok (.bool false) w := by
  simp [binOp, Op.stringOp, h]
open KS in
set_option maxRecDepth 20000 in
set_option maxHeartbeats 8000000 in
theorem skipHeights_walk (W : World) (a : Option Addr) (cap : Nat) (l : List ByteArray) (hc : l.length ≤ cap) (hm : cap ≤ maxLen) (rd : Strs W a l) (a' : Option Addr) (cap' : Nat) (l' : List Int) (hc' : l'.length ≤ cap') (hm' : cap' ≤ maxLen) (rd' : Ints W a' l') :
    Calls Try.prog 4 #[.slice a l.length cap, .slice a' l'.length cap'] W fun e w' => e = .returned (.bool true) ∧ Below W.heap.size W w' := by
  have HRD := Lib.hid rd
  have HRD' := Lib.hid rd'
  unfold maxLen at hm hm'
  obtain ⟨n, hn⟩ : ∃ n, l.length = n := ⟨_, rfl⟩
  obtain ⟨n', hn'⟩ : ∃ n, l'.length = n := ⟨_, rfl⟩
  rw [hn] at hc
  rw [hn'] at hc'
  rw [hn, hn']
  have HN := Lib.hid hn
  have HN' := Lib.hid hn'
  have HC := Lib.hid (new_c W)
  clear rd hn rd' hn'
  have fin : ∀ w' : World, Fr No W w' → Below W.heap.size W w' := fun w' f => f.below (Nat.le_refl _) (fun _ h => h.elim)
  have FIN := Lib.hid fin
  clear fin
  go_enter Try.func4, Try.ntmps4
  go_wp2_with fail
  refine HC.out.mono ?_
  rintro e w0 ⟨⟨b, hb, hs, rfl, L0, low0⟩, f0⟩
  have HL0 := Lib.hid L0
  have HLO0 := Lib.hid low0
  have HF0 := Lib.hid f0
  clear L0 low0 f0
  go_wp2_with fail
  refine (new_c w0).mono ?_
  rintro e w1 ⟨⟨b', hb', hs', rfl, L1, low1⟩, f1⟩
  have HLa := Lib.hid (HL0.out.keep f1 (fun _ _ h => h))
  have HLb := Lib.hid L1
  have HLOb : Hid (∀ z, SkOn b' hb' hs' ([] : List N2) z → W.heap.size ≤ z) := Lib.hid fun z hz => Nat.le_trans HF0.out.size (low1 z hz)
  have HDIS : Hid (∀ z, SkOn b hb hs ([] : List N2) z → ¬ SkOn b' hb' hs' ([] : List N2) z) := Lib.hid fun z hz hz' => absurd (low1 z hz') (by have := HL0.out.lt_size z hz; omega)
  have HF1 := Lib.hid (HF0.out.trans f1)
  clear L1 low1 f1 HL0
  have HA := Lib.hid (awake_c w1)
  by_cases hbig : 60 < n
  · have d1 : decide ((60 : Int) < (n : Int)) = true := by rw [decide_eq_true_eq]; omega
    go_wp2_with fail
    refine HA.out.mono ?_
    rintro e w2 ⟨rfl, f2⟩
    have HF2 := Lib.hid (HF1.out.trans f2)
    clear f2
    go_wp2_with fail
    go_ret
    exact ⟨rfl, FIN.out _ HF2.out⟩
  have d1 : decide ((60 : Int) < (n : Int)) = false := by rw [decide_eq_false_iff_not]; omega
  by_cases hsm : n' < n
  · have d2 : decide ((n' : Int) < (n : Int)) = true := by rw [decide_eq_true_eq]; omega
    go_wp2_with fail
    refine HA.out.mono ?_
    rintro e w2 ⟨rfl, f2⟩
    have HF2 := Lib.hid (HF1.out.trans f2)
    clear f2
    go_wp2_with fail
    go_ret
    exact ⟨rfl, FIN.out _ HF2.out⟩
  have d2 : decide ((n' : Int) < (n : Int)) = false := by rw [decide_eq_false_iff_not]; omega
  clear HA
  go_wp2_with fail
  clear d1 d2
  go_loopw [53] (fun i wr => ∃ (j : Nat) (ns1 ns2 : List N2), i = .int .i64 j ∧ j ≤ n ∧ SkL wr b hb hs ns1 ∧ SkL wr b' hb' hs' ns2 ∧ ns1.map kvN = ns2.map kvN ∧ ns1.length ≤ j ∧ (∀ z, SkOn b hb hs ns1 z → W.heap.size ≤ z) ∧ (∀ z, SkOn b' hb' hs' ns2 z → W.heap.size ≤ z) ∧ (∀ z, SkOn b hb hs ns1 z → ¬ SkOn b' hb' hs' ns2 z) ∧ Fr No W wr) (fun i _ => n - (intOf i).toNat)
  case atStart => exact ⟨0, [], [], rfl, Nat.zero_le _, HLa.out, HLb.out, rfl, Nat.le_refl _, HLO0.out, HLOb.out, HDIS.out, HF1.out⟩
  case round =>
    obtain ⟨j, ns1, ns2, rfl, hj, La, Lb, hkv, hle, hlo1, hlo2, hdis, hf⟩ := hrel
    have HL1 := Lib.hid La
    have HL2 := Lib.hid Lb
    have HKV := Lib.hid hkv
    have HO1 := Lib.hid hlo1
    have HO2 := Lib.hid hlo2
    have HDI := Lib.hid hdis
    have HF := Lib.hid hf
    have hlen : ns2.length = ns1.length := by
      have := congrArg List.length hkv
      simpa using this.symm
    clear La Lb hkv hlo1 hlo2 hdis
    by_cases hjn : j < n
    · obtain ⟨g, o, rfl, hx⟩ := HRD.out (by rw [HN.out]; omega)
      obtain ⟨g', o', rfl, hx'⟩ := HRD'.out (by rw [HN'.out]; omega)
      obtain ⟨x, hx0⟩ : ∃ x, l[j]? = some x := ⟨_, List.getElem?_eq_getElem (by rw [HN.out]; exact hjn)⟩
      obtain ⟨h, hh0⟩ : ∃ x, l'[j]? = some x := ⟨_, List.getElem?_eq_getElem (by rw [HN'.out]; omega)⟩
      have q0 := hf.cell (hx j x hx0).1 (fun h => h)
      have q1 := hf.cell (hx' j h hh0).1 (fun h => h)
      have d1 : decide ((j : Int) < (n : Int)) = true := by rw [decide_eq_true_eq]; omega
      have d3 : j < n' := by omega
      clear hx hx0 hx' hh0 hf
      by_cases hbl : 100 < x.size
      · have d4 : decide ((100 : Int) < (x.size : Int)) = true := by rw [decide_eq_true_eq]; omega
        have HA := Lib.hid (awake_c wr)
        go_wp2_with fail
        refine HA.out.mono ?_
        rintro e w2 ⟨rfl, f2⟩
        have HF2 := Lib.hid (HF.out.trans f2)
        clear f2
        go_wp2_with fail
        go_ret
        exact ⟨rfl, FIN.out _ HF2.out⟩
      have d4 : decide ((100 : Int) < (x.size : Int)) = false := by rw [decide_eq_false_iff_not]; omega
      have PUTS : ∀ h : Int, ¬ (h < 1 ∨ 12 < h) → Hid (Calls Try.prog 28 #[.pointer (some ⟨b, 0, none⟩), .string x, .int .i64 (j : Int), .int .i64 h] wr fun e w3 => ∃ ns1' bb, e = .returned (.tuple #[.bool bb, .int .i64 0]) ∧ Fr No W w3 ∧
          Calls Try.prog 28 #[.pointer (some ⟨b', 0, none⟩), .string x, .int .i64 (j : Int), .int .i64 (13 - h)] w3 fun e w4 => e = .returned (.tuple #[.bool bb, .int .i64 0]) ∧
            ∃ ns2', SkL w4 b hb hs ns1' ∧ SkL w4 b' hb' hs' ns2' ∧ ns1'.map kvN = ns2'.map kvN ∧ ns1'.length ≤ j + 1 ∧ (∀ z, SkOn b hb hs ns1' z → W.heap.size ≤ z) ∧ (∀ z, SkOn b' hb' hs' ns2' z → W.heap.size ≤ z) ∧ (∀ z, SkOn b hb hs ns1' z → ¬ SkOn b' hb' hs' ns2' z) ∧ Fr No W w4) := fun h hg => Lib.hid (by
        refine (put_c b hb hs ns1 x (j : Int) h wr HL1.out (by omega)).mono ?_
        rintro e w3 ⟨⟨ns1', L3, on3, ps3⟩, f3⟩
        obtain ⟨_, hl3, bb, rfl⟩ := ps3.keys hg
        have F3 : Fr No W w3 := HF.out.own HO1.out f3
        have L2 := HL2.out.keep f3 (fun z hz hz' => HDI.out z hz' hz)
        refine ⟨ns1', bb, rfl, F3, (put_c b' hb' hs' ns2 x (j : Int) (13 - h) w3 L2 (by omega)).mono ?_⟩
        rintro e w4 ⟨⟨ns2', L4, on4, ps4⟩, f4⟩
        obtain ⟨hkv', b2, e1, e2⟩ := put_alike HL1.out L2 HKV.out ps3 ps4 hg (by omega)
        have eb : bb = b2 := by
          simp at e1
          exact e1
        subst eb
        have dis3 : ∀ z, SkOn b hb hs ns1' z → ¬ SkOn b' hb' hs' ns2 z := fun z hz hz' => (on3 z hz).elim (fun h => HDI.out z h hz') (fun h => absurd (HL2.out.lt_size z hz') (by omega))
        refine ⟨e2, ns2', L3.keep f4 dis3, L4, hkv', by omega, fun z hz => (on3 z hz).elim (HO1.out z) (fun h => Nat.le_trans HF.out.size h), fun z hz => (on4 z hz).elim (HO2.out z) (fun h => Nat.le_trans F3.size h), fun z hz hz' => ?_, F3.own HO2.out f4⟩
        exact (on4 z hz').elim (fun h => dis3 z hz h) (fun h => absurd (L3.lt_size z hz) (by omega)))
      have HPUTS := Lib.hid PUTS
      clear PUTS hlen
      by_cases h1 : h < 1
      · have d5 : decide (h < 1) = true := decide_eq_true h1
        have HP := HPUTS.out 1 (by omega)
        go_wp2_with fail
        refine HP.out.mono ?_
        rintro e w3 ⟨ns1', bb, rfl, F3, HP2⟩
        have HP2 := Lib.hid HP2
        clear F3
        go_wp2_with fail
        refine HP2.out.mono ?_
        rintro e w4 ⟨rfl, ns2', hrest⟩
        have HR := Lib.hid hrest
        clear hrest q0 q1
        cases bb
        · go_wp2_with fail
          go_roundw
          case rel => exact ⟨j + 1, ns1', ns2', by simp, by omega, HR.out⟩
          case measure => simp [intOf]; omega
        · go_wp2_with fail
          go_roundw
          case rel => exact ⟨j + 1, ns1', ns2', by simp, by omega, HR.out⟩
          case measure => simp [intOf]; omega
      have d5 : decide (h < 1) = false := decide_eq_false h1
      by_cases h2 : 12 < h
      · have d6 : decide (12 < h) = true := decide_eq_true h2
        have HP := HPUTS.out 1 (by omega)
        go_wp2_with fail
        refine HP.out.mono ?_
        rintro e w3 ⟨ns1', bb, rfl, F3, HP2⟩
        have HP2 := Lib.hid HP2
        clear F3
        go_wp2_with fail
        refine HP2.out.mono ?_
        rintro e w4 ⟨rfl, ns2', hrest⟩
        have HR := Lib.hid hrest
        clear hrest q0 q1
        cases bb
        · go_wp2_with fail
          go_roundw
          case rel => exact ⟨j + 1, ns1', ns2', by simp, by omega, HR.out⟩
          case measure => simp [intOf]; omega
        · go_wp2_with fail
          go_roundw
          case rel => exact ⟨j + 1, ns1', ns2', by simp, by omega, HR.out⟩
          case measure => simp [intOf]; omega
      have d6 : decide (12 < h) = false := decide_eq_false h2
      have HP := HPUTS.out h (by omega)
      go_wp2_with fail
      refine HP.out.mono ?_
      rintro e w3 ⟨ns1', bb, rfl, F3, HP2⟩
      have HP2 := Lib.hid HP2
      clear F3
      go_wp2_with fail
      refine HP2.out.mono ?_
      rintro e w4 ⟨rfl, ns2', hrest⟩
      have HR := Lib.hid hrest
      clear hrest q0 q1
      cases bb
      · go_wp2_with fail
        go_roundw
        case rel => exact ⟨j + 1, ns1', ns2', by simp, by omega, HR.out⟩
        case measure => simp [intOf]; omega
      · go_wp2_with fail
        go_roundw
        case rel => exact ⟨j + 1, ns1', ns2', by simp, by omega, HR.out⟩
        case measure => simp [intOf]; omega
    · obtain rfl : j = n := by omega
      have d1 : decide ((j : Int) < (j : Int)) = false := by simp
      clear hf
      obtain ⟨m, hm0⟩ : ∃ m, ns1.length = m := ⟨_, rfl⟩
      have HM := Lib.hid hm0
      have HM2 : Hid (ns2.length = m) := Lib.hid (hlen.trans hm0)
      have HKY := Lib.hid (keys_c b hb hs ns1 wr HL1.out (by omega))
      rw [hm0] at hle
      clear hlen hm0
      go_wp2_with fail
      refine HKY.out.mono ?_
      rintro e w2 ⟨⟨kv, rfl, hrow⟩, f2⟩
      have HF2 := Lib.hid (HF.out.trans f2)
      have HK1 := Lib.hid (HL1.out.keep f2 (fun _ _ h => h))
      have HK2 := Lib.hid (HL2.out.keep f2 (fun _ _ h => h))
      obtain ⟨ka, kc, rfl, kle, kmx, _, kcell⟩ := hrow.form
      unfold maxLen at kmx
      have KC : Hid (∀ t (ht : t < ns1.length), ∃ g, ka = some ⟨g, 0, none⟩ ∧ w2.cell? ⟨g, t, none⟩ = some (.string (ns1[t]).k)) := Lib.hid fun t ht => by
        obtain ⟨g, _, hg, hcell⟩ := kcell (by omega)
        exact ⟨g, hg, (hcell t (by omega)).1.trans (keysC_at t ht)⟩
      clear f2 hrow kcell
      rw [HM.out] at kle
      rw [HM.out]
      go_wp2_with fail
      refine (keys_c b' hb' hs' ns2 w2 HK2.out (by rw [HM2.out]; omega)).mono ?_
      rintro e w3 ⟨⟨kv, rfl, hrow⟩, f3⟩
      have HF3 := Lib.hid (HF2.out.trans f3)
      have HG3 := Lib.hid f3
      have HK1' := Lib.hid (HK1.out.keep f3 (fun _ _ h => h))
      have HK2' := Lib.hid (HK2.out.keep f3 (fun _ _ h => h))
      obtain ⟨kb, kd, rfl, kle2, kmx2, _, kcell⟩ := hrow.form
      unfold maxLen at kmx2
      have KD : Hid (∀ t (ht : t < ns1.length), ∃ g, kb = some ⟨g, 0, none⟩ ∧ w3.cell? ⟨g, t, none⟩ = some (.string (ns1[t]).k)) := Lib.hid fun t ht => by
        have ht2 : t < ns2.length := by rw [HM2.out, ← HM.out]; exact ht
        obtain ⟨g, _, hg, hcell⟩ := kcell (by omega)
        refine ⟨g, hg, (hcell t (by omega)).1.trans ((keysC_at t ht2).trans ?_)⟩
        rw [(kv_at HKV.out t ht ht2).1]
      clear f3 hrow kcell
      rw [HM2.out] at kle2
      rw [HM2.out]
      have HLN1 := Lib.hid (len_c HK1'.out)
      have HLN2 := Lib.hid (len_c HK2'.out)
      rw [HM.out] at HLN1
      rw [HM2.out] at HLN2
      have d7 : ((m : Int) == (m : Int)) = true := by simp
      go_wp2_with fail
      refine HLN1.out.mono ?_
      rintro e w4 ⟨rfl, rfl⟩
      go_wp2_with fail
      refine HLN2.out.mono ?_
      rintro e w4 ⟨rfl, rfl⟩
      go_wp2_with fail
      go_loopw [119] (fun i wr => ∃ t : Nat, i = .int .i64 t ∧ t ≤ m ∧ Fr No w3 wr) (fun i _ => m - (intOf i).toNat)
      case atStart => exact ⟨0, rfl, Nat.zero_le _, Fr.refl _ _⟩
      case round =>
        obtain ⟨t, rfl, ht, hfq⟩ := hrel
        have HFQ := Lib.hid hfq
        clear hfq
        by_cases htm : t < m
        · have htm' : t < ns1.length := by rw [HM.out]; exact htm
          have htm2 : t < ns2.length := by rw [HM2.out]; exact htm
          have g1 : decide ((t : Int) < (m : Int)) = true := by rw [decide_eq_true_eq]; omega
          obtain ⟨g1', rfl, r1⟩ := KC.out t htm'
          obtain ⟨g2', rfl, r2⟩ := KD.out t htm'
          have r1 := (HG3.out.trans HFQ.out).cell r1 (fun h => h)
          have R2 : Hid (∀ W', Fr No w3 W' → W'.cell? ⟨g2', t, none⟩ = some (.string (ns1[t]).k)) := Lib.hid fun W' f => f.cell r2 (fun h => h)
          have GET1 := Lib.hid (get_c b hb hs ns1 (ns1[t]).k wr (HK1'.out.keep HFQ.out (fun _ _ h => h)))
          rw [get_of_mem ordS HK1'.out.srt (List.getElem_mem htm'), show getR (some ns1[t]) = .tuple #[.int .i64 (ns1[t]).v, .bool true] from rfl] at GET1
          have GET2 : Hid (∀ W', Fr No w3 W' → Calls Try.prog 31 #[.pointer (some ⟨b', 0, none⟩), .string (ns1[t]).k] W' fun e w' => e = .returned (.tuple #[.int .i64 (ns1[t]).v, .bool true]) ∧ Fr No W' w') := Lib.hid fun W' f => by
            have := get_c b' hb' hs' ns2 (ns2[t]).k W' (HK2'.out.keep f (fun _ _ h => h))
            rw [get_of_mem ordS HK2'.out.srt (List.getElem_mem htm2), show getR (some ns2[t]) = .tuple #[.int .i64 (ns2[t]).v, .bool true] from rfl, (kv_at HKV.out t htm' htm2).1, (kv_at HKV.out t htm' htm2).2] at this
            exact this
          have HPV : Hid (∀ s, s + 1 = t → ∃ z : ByteArray, (∀ W', Fr No w3 W' → W'.cell? ⟨g1', s, none⟩ = some (.string z)) ∧ Op.bytesLess z.toList (ns1[t]).k.toList = true) := Lib.hid fun s hs => by
            have hs' : s < ns1.length := by omega
            obtain ⟨g3, e3, r3⟩ := KC.out s hs'
            simp only [Option.some.injEq, Addr.mk.injEq, and_true] at e3
            subst e3
            exact ⟨(ns1[s]).k, fun W' f => (HG3.out.trans f).cell r3 (fun h => h), List.pairwise_iff_getElem.1 HK1'.out.srt s t hs' htm' (by omega)⟩
          obtain ⟨z, hz⟩ : ∃ z, (ns1[t]).k = z := ⟨_, rfl⟩
          obtain ⟨v, hv⟩ : ∃ z, (ns1[t]).v = z := ⟨_, rfl⟩
          rw [hz] at r1 R2 GET1 GET2 HPV
          rw [hv] at GET1 GET2
          have d8 : (z.toList == z.toList) = true := by simp
          have d9 : (v == v) = true := by simp
          clear hz hv r2
          go_wp2_with fail
          refine GET1.out.mono ?_
          rintro e w5 ⟨rfl, f5⟩
          have HF5 := Lib.hid (HFQ.out.trans f5)
          have r2 := R2.out w5 HF5.out
          clear f5
          go_wp2_with fail
          refine (GET2.out w5 HF5.out).mono ?_
          rintro e w6 ⟨rfl, f6⟩
          have HF6 := Lib.hid (HF5.out.trans f6)
          have r3 := R2.out w6 HF6.out
          clear f6 r1 r2
          cases t with
          | zero =>
            go_wp2_with fail
            go_roundw
            case rel => exact ⟨1, by simp, by omega, HF6.out⟩
            case measure => simp [intOf]; omega
          | succ s =>
            obtain ⟨z0, r4, d10⟩ := HPV.out s rfl
            have r4 := r4 w6 HF6.out
            have d11 : decide ((0 : Int) < ((s + 1 : Nat) : Int)) = true := by rw [decide_eq_true_eq]; omega
            have e11 : ((s + 1 : Nat) : Int) = (s : Int) + 1 := by omega
            have hge := geqS z0 z d10 w6
            go_wp2_with fail
            go_roundw
            case rel => exact ⟨s + 2, by simp; omega, by omega, HF6.out⟩
            case measure => simp [intOf]; omega
        · obtain rfl : t = m := by omega
          have g1 : decide ((t : Int) < (t : Int)) = false := by simp
          have HA := Lib.hid (awake_c wr)
          go_wp2_with fail
          refine HA.out.mono ?_
          rintro e w8 ⟨rfl, f8⟩
          have HF8 := Lib.hid ((HF3.out.trans HFQ.out).trans f8)
          clear f8
          go_wp2_with fail
          go_ret
          exact ⟨rfl, FIN.out _ HF8.out⟩
end Go.Proofs.Ytdnaebbfbkdjoaa
