/-
  Texts of layer 13 and of what it stands on, one behind the other.
-/
import Derived.Test.YtlobnbbndkhcbaaGreatDoorMg40
import Derived.Test.YtlobnbbndkhcbaaGreatDoorMg26
import Derived.Test.YtlobnbbndkhcbaaGreatDoorMg28

/- Layer 13, the program's own: read, walked. -/
namespace Go.Proofs.YtlobnbbndkhcbaaGreatDoor
set_option linter.unusedVariables false
set_option linter.unusedSimpArgs false
open Go.RowKit

theorem Rd.keepT {w w' : World} {a : Option Addr} {l : List UInt8} {T : Nat → Prop} (h : Rd w a l) (f : Fr T w w') (hT : ∀ k, k < w.heap.size → ¬ T k) : Rd w' a l := ((In.of_rd h).keep f (fun k hk => hT k hk)).rd
theorem Recs.get {w : World} {a : Option Addr} {l : List Tx} (h : Recs w a l) {i : Nat} (hi : i < l.length) : ∃ b o, a = some ⟨b, o, none⟩ ∧ RcAt w b (o + i) l[i] := by
  obtain ⟨b, o, ha, hx⟩ := h (by omega)
  exact ⟨b, o, ha, hx i l[i] (List.getElem?_eq_getElem hi)⟩
set_option maxRecDepth 100000 in
set_option maxHeartbeats 8000000 in
theorem read13_c (w : World) (a : Option Addr) (n cap : Nat) (b : List UInt8) (ht : Tab w) (hn : b.length = n) (hc : n ≤ cap) (hm : cap ≤ maxLen) (h5 : n ≤ 50000) (hr : Rd w a b) :
    Calls Tryz.prog 52 #[.slice a n cap] w (RdRet b w) := by
  obtain ⟨W0, hW0⟩ : ∃ W, w.alloc (.cells #[.int .i64 0, .int .i64 0, .int .i64 0] 24) = W := ⟨_, rfl⟩
  have f0 : Fr No w W0 := by rw [← hW0]; exact (Fr.refl No w).alloc _
  have a0 : At W0 w.heap.size 24 #[.int .i64 0, .int .i64 0, .int .i64 0] := by rw [← hW0]; exact At.new _ _ _
  have HB : Hid (b.length ≤ 100000) := Lib.hid (by omega)
  have HNO : Hid ((∀ Ls l, ¬ Good b Ls l) → ∀ w', Fr No w w' → RdRet b w (.returned (.tuple #[.pointer none, .agg #[.int .i64 0, .int .i64 0, .int .i64 0], .bool false])) w') := Lib.hid fun h w' f => .inr ⟨h, ⟨⟨0, 0, 0⟩, rfl⟩, f⟩
  have HN := Lib.hid hn
  have HW0 := Lib.hid hW0
  have A0 := Lib.hid a0
  have F0 := Lib.hid f0
  clear hW0
  by_cases h24 : n < 24
  · have d1 : decide ((n : Int) < 24) = true := decide_eq_true (by omega)
    have z0 := a0.frozen 0
    have z1 := (a0.set_ 0 (.int .i64 0)).frozen 1
    have z2 := ((a0.set_ 0 (.int .i64 0)).set_ 1 (.int .i64 0)).frozen 2
    have y0 := a0.cell 0
    have y1 := (a0.set_ 0 (.int .i64 0)).cell 1
    have y2 := ((a0.set_ 0 (.int .i64 0)).set_ 1 (.int .i64 0)).cell 2
    have AZ := Lib.hid (((a0.set_ 0 (.int .i64 0)).set_ 1 (.int .i64 0)).set_ 2 (.int .i64 0))
    have FZ := Lib.hid (((f0.setCell (p := ⟨w.heap.size, 0, none⟩) (fun h => absurd h (Nat.lt_irrefl _)) (.int .i64 0)).setCell (p := ⟨w.heap.size, 1, none⟩) (fun h => absurd h (Nat.lt_irrefl _)) (.int .i64 0)).setCell (p := ⟨w.heap.size, 2, none⟩) (fun h => absurd h (Nat.lt_irrefl _)) (.int .i64 0))
    have HR := Lib.hid (HNO.out (fun Ls l h => by have := h.foot; omega) _ FZ.out)
    rw [← HW0.out] at y0 y1 y2 z0 z1 z2
    have HR0 := Lib.hid (HNO.out (fun Ls l h => by have := h.foot; have := HN.out; omega) _ F0.out)
    clear hr ht hn a0 f0
    go_enter Tryz.func52, Tryz.ntmps52
    go_wp2_with fail
    rw [HW0.out]
    exact bodyPost_ret (read_results _ _ _ _ _ _ _ _ rfl rfl rfl A0.out) rfl HR0.out
  · have d1 : decide ((n : Int) < 24) = false := decide_eq_false (by omega)
    obtain ⟨m, hm'⟩ : ∃ m, n - 24 = m := ⟨_, rfl⟩
    have hmi : (n : Int) - 24 = (m : Int) := by omega
    have hmw : IntKind.i64.wrap (m : Int) = (m : Int) := IntWalk.i64_in _ (by omega)
    have K := fun w => cut_hi (P := Tryz.prog) (t := 27) (e := 5) Tryz.underlying27 sizeU8 a n cap m (by omega) w
    have htk : (b.take m).length = m := by rw [List.length_take]; omega
    have CS := Lib.hid (scanC_c a m cap (b.take m) W0 htk (by omega) (by omega) ((hr.keep f0).take m) (ht.keep f0 (fun h => h)))
    have HFS : Hid (scanL (b.take m) = recsOf b) := Lib.hid (by unfold recsOf; rw [hn, hm'])
    have H24 : Hid (24 ≤ b.length) := Lib.hid (by omega)
    have hmb : m ≤ 50000 := by omega
    clear hr ht hn a0 f0 htk hm'
    go_enter Tryz.func52, Tryz.ntmps52
    go_wp2_with fail
    rw [HW0.out]
    refine (show Calls _ _ _ _ _ from CS.out).mono ?_
    rintro e1 w1 ⟨v1, xs, rfl, tx1, hxs, f1, hcaps⟩
    have HCAPS := Lib.hid hcaps
    rw [HFS.out] at hxs
    obtain ⟨fa, fc, rfl, hfc, hfm, rc⟩ := tx1.texts
    obtain ⟨N, hN⟩ : ∃ N, xs.length = N := ⟨_, rfl⟩
    have hNb : N * 5 ≤ 50000 := by
      have q1 := framesL_count (recsOf b)
      have q2 : (framesL (recsOf b)).length ≤ (b.take (b.length - 24)).length := (scanL_is (b.take (b.length - 24))).le
      rw [List.length_take] at q2
      have q3 := congrArg List.length hxs
      rw [List.length_map] at q3
      have := HN.out
      omega
    rw [hN] at hfc ⊢
    have F1 := Lib.hid (F0.out.trans f1)
    have A1 := Lib.hid (A0.out.keep f1 (fun h => h))
    have RC := Lib.hid rc
    have HXS := Lib.hid hxs
    have HXN := Lib.hid hN
    have HNR : Hid ((recsOf b).length = N) := Lib.hid (by rw [← hxs, List.length_map, hN])
    have HXG : Hid (∀ i (h : i < N), (recsOf b).getD i [] = (xs[i]'(by rw [hN]; exact h)).b) := Lib.hid fun i h => by
      rw [← hxs, List.getD_eq_getElem?_getD, List.getElem?_map, List.getElem?_eq_getElem (by rw [hN]; exact h)]
      rfl
    obtain ⟨tl, htl⟩ : ∃ tl, (framesL (scanL (b.take m))).length = tl := ⟨_, rfl⟩
    rw [htl]
    clear tx1 rc hxs f1 CS htl K hcaps
    by_cases h2 : N ≤ 2
    · have d2 : decide ((N : Int) ≤ 2) = true := decide_eq_true (by omega)
      have z0 := A1.out.frozen 0
      have z1 := (A1.out.set_ 0 (.int .i64 0)).frozen 1
      have z2 := ((A1.out.set_ 0 (.int .i64 0)).set_ 1 (.int .i64 0)).frozen 2
      have y0 := A1.out.cell 0
      have y1 := (A1.out.set_ 0 (.int .i64 0)).cell 1
      have y2 := ((A1.out.set_ 0 (.int .i64 0)).set_ 1 (.int .i64 0)).cell 2
      have AZ := Lib.hid (((A1.out.set_ 0 (.int .i64 0)).set_ 1 (.int .i64 0)).set_ 2 (.int .i64 0))
      have FZ := Lib.hid (((F1.out.setCell (p := ⟨w.heap.size, 0, none⟩) (fun h => absurd h (Nat.lt_irrefl _)) (.int .i64 0)).setCell (p := ⟨w.heap.size, 1, none⟩) (fun h => absurd h (Nat.lt_irrefl _)) (.int .i64 0)).setCell (p := ⟨w.heap.size, 2, none⟩) (fun h => absurd h (Nat.lt_irrefl _)) (.int .i64 0))
      have HR := Lib.hid (HNO.out (fun Ls l h => by have q1 := h.num; have q2 := h.pos; rw [HNR.out] at q1; omega) _ FZ.out)
      go_wp2_with fail
      exact bodyPost_ret (read_results _ _ _ _ _ _ _ _ rfl rfl rfl AZ.out) rfl HR.out
    · have d2 : decide ((N : Int) ≤ 2) = false := decide_eq_false (by omega)
      obtain ⟨D, hD⟩ : ∃ D, N - 2 = D := ⟨_, rfl⟩
      have hDi : (N : Int) - 2 = (D : Int) := by omega
      have hDw : IntKind.i64.wrap (D : Int) = (D : Int) := IntWalk.i64_in _ (by omega)
      have K2 := fun w => cut_hi (P := Tryz.prog) (t := 133) (e := 27) Tryz.underlying133 sizeSl fa N fc D (by omega) w
      obtain ⟨W2, hW2⟩ : ∃ W, (w1.alloc (.cells #[.slice none 0 0, .pointer none, .int .i64 (D : Int)] 103)).alloc (.cells #[.int .i64 16, .int .i64 0, .int .i64 0] 24) = W := ⟨_, rfl⟩
      have f2 : Fr No w1 W2 := by rw [← hW2]; exact ((Fr.refl No w1).alloc _).alloc _
      have t2 : TS W2 w1.heap.size w1.heap.size (w1.heap.size + 1) (.slice none 0 0) (.pointer none) [] (D : Int) ⟨16, 0, 0⟩ := by
        have q := At.new (w1.alloc (.cells #[.slice none 0 0, .pointer none, .int .i64 (D : Int)] 103)) 24 #[.int .i64 16, .int .i64 0, .int .i64 0]
        rw [World.size_alloc] at q
        rw [← hW2]
        exact ⟨(At.new _ _ _).keep ((Fr.refl No _).alloc _) (fun h => h), q, RowG.nil _ _ _ _, fun k hk => by simp [Value.ownBlock] at hk, Nat.le_refl _, Nat.le_succ _⟩
      have s2 : w1.heap.size ≤ W2.heap.size := f2.size
      have HT2 := Lib.hid t2
      have HF2 := Lib.hid f2
      have HW2 := Lib.hid hW2
      have HD := Lib.hid hD
      clear t2 f2 hW2 hD
      go_wp2_with fail
      rw [HW2.out]
      go_loopw [43] (fun i wr => ∃ (k : Nat) (Ls : List Bk2) (l : List Ent) (ve : Value), i = .int .i64 k ∧ k ≤ D ∧ Ls.length = k ∧ Fst (recsOf b) Ls ∧ prsE l = flatB Ls ∧ (∀ x ∈ l, RtE x) ∧ l.length ≤ 65536 ∧ blkL Ls ≤ 4000000000 ∧ 0 ≤ blkL Ls ∧ TS wr w1.heap.size w1.heap.size (w1.heap.size + 1) ve (.pointer none) l (D : Int) ⟨blkL Ls, eL Ls, 0⟩ ∧ Fr No w1 wr) (fun i _ => D - (intOf i).toNat)
      case atStart => exact ⟨0, [], [], _, rfl, Nat.zero_le _, rfl, (fun i h => by simp at h), rfl, (fun x h => absurd h (List.not_mem_nil)), by simp, by decide, by decide, HT2.out, HF2.out⟩
      case round =>
        obtain ⟨k, Ls, l, ve, rfl, hk, hls, hfst, hprs, hrt, hll, hbl, hb0, hts, hfr⟩ := hrel
        have HLS := Lib.hid hls
        have HFST := Lib.hid hfst
        have HPRS := Lib.hid hprs
        have HRT := Lib.hid hrt
        have HTS := Lib.hid hts
        have HFR := Lib.hid hfr
        have HLL := Lib.hid hll
        clear hls hfst hprs hrt hts hfr
        by_cases hlt : k < D
        · have hkN : k < N := by have := HD.out; omega
          obtain ⟨gb, go, rfl, hx⟩ := RC.out.get (i := k) (by rw [HXN.out]; exact hkN)
          have hxb := HXG.out k hkN
          obtain ⟨x, hxe⟩ : ∃ x, xs[k]'(by rw [HXN.out]; exact hkN) = x := ⟨_, rfl⟩
          rw [hxe] at hx hxb
          have c0 := HFR.out.cell hx.c0 (fun h => h)
          have hxl : x.b.length ≤ 50000 := by
            have q := recs_short HB.out k
            rw [hxb, HN.out] at q
            omega
          have hcx := HCAPS.out x (by rw [← hxe]; exact List.getElem_mem _)
          have CR := Lib.hid (readBlock_c wr w1.heap.size w1.heap.size (w1.heap.size + 1) ve (.pointer none) l (D : Int) ⟨blkL Ls, eL Ls, 0⟩ x.a x.b.length x.c x.b HTS.out (HFR.out.size) hll hbl hb0 rfl hcx.1 hcx.2 (by omega) (hx.rd.keep HFR.out))
          have hxbl := Lib.hid hxl
          obtain ⟨xn, hxn⟩ : ∃ xn, x.b.length = xn := ⟨_, rfl⟩
          rw [hxn] at c0 CR hcx
          have HXB := Lib.hid hxb
          clear hx hxb hxe
          go_wp2_with fail
          refine (show Calls _ _ _ _ _ from CR.out).mono ?_
          rintro e2 w2 (⟨L, e, l2, hbo, hp2, hr2, hle, rfl, ⟨ve2, hts2⟩, f2⟩ | ⟨hno, rfl, f2⟩)
          · have HTS2 := Lib.hid hts2
            have HFR2 := Lib.hid (HFR.out.then_ f2 fun q hq h => by omega)
            have hlow : Low 100000 L := fun i hi => by
              have q1 := key_len e L i
              have q2 := blockB_len e L
              have q3 := congrArg List.length (pairsB_rest e L (L.length - (i + 1)) (i + 1))
              rw [show i + 1 + (L.length - (i + 1)) = L.length by omega, List.length_append] at q3
              rw [hbo.2.2.2, hxn] at q2
              have := hxbl.out
              omega
            have hLn : 3 * L.length ≤ 50000 := by
              have q1 := pairsB_ge e L L.length
              have q2 := blockB_len e L
              rw [hbo.2.2.2, hxn] at q2
              have := hxbl.out
              omega
            have HBO : Hid (Fst (recsOf b) (Ls ++ [(L, e)])) := Lib.hid fun i hi => by
              rw [List.length_append, List.length_singleton] at hi
              rcases Nat.lt_or_ge i Ls.length with h9 | h9
              · have q := HFST.out i h9
                rw [show (Ls ++ [(L, e)]).getD i bk0 = Ls.getD i bk0 by rw [List.getD_eq_getElem?_getD, List.getD_eq_getElem?_getD, List.getElem?_append_left h9]]
                exact q
              · obtain rfl : i = Ls.length := by omega
                rw [show (Ls ++ [(L, e)]).getD Ls.length bk0 = (L, e) by rw [List.getD_eq_getElem?_getD, List.getElem?_append_right (Nat.le_refl _), Nat.sub_self]; rfl, HLS.out, HXB.out]
                exact hbo
            have HP2 : Hid (prsE (l ++ l2) = flatB (Ls ++ [(L, e)])) := Lib.hid (by rw [prsE_app, HPRS.out, flatB_snoc, hp2])
            have HR2 : Hid (∀ x ∈ l ++ l2, RtE x) := Lib.hid fun y hy => (List.mem_append.1 hy).elim (HRT.out y) (hr2 y)
            have HL2 : Hid ((l ++ l2).length ≤ 65536) := Lib.hid (by
              rw [List.length_append]
              have q := congrArg List.length hp2
              rw [prsE_len] at q
              omega)
            have HBL : Hid (blkL (Ls ++ [(L, e)]) ≤ 4000000000 ∧ 0 ≤ blkL (Ls ++ [(L, e)])) := Lib.hid (by
              rw [blkL_snoc]
              have q1 := blkK_ge (blkL Ls) L L.length
              exact ⟨blkK_max _ _ L hbl hlow L.length (by omega) (Nat.le_refl _), by show 0 ≤ blkK (blkL Ls) L L.length; omega⟩)
            have HBE : Hid (blkL (Ls ++ [(L, e)]) = blkK (blkL Ls) L L.length ∧ eL (Ls ++ [(L, e)]) = (e : Int)) := Lib.hid ⟨blkL_snoc _ _, eL_snoc _ _⟩
            clear hts2 f2 hbo hp2 hr2 hle hlow hLn CR
            go_wp2_with fail
            go_roundw
            case rel => exact ⟨k + 1, Ls ++ [(L, e)], l ++ l2, ve2, by simp, by omega, by rw [List.length_append, HLS.out]; rfl, HBO.out, HP2.out, HR2.out, HL2.out, HBL.out.1, HBL.out.2, by rw [HBE.out.1, HBE.out.2]; exact HTS2.out, HFR2.out⟩
            case measure => simp [intOf]; omega
          · have HNG : Hid (∀ Ls' l', ¬ Good b Ls' l') := Lib.hid fun Ls' l' hG => by
              obtain ⟨L, e, l2, g1, g2, g3, g4⟩ := good_next HB.out hG HFST.out (by rw [HLS.out, HNR.out]; have := HD.out; omega)
              rw [HLS.out, HXB.out] at g1
              have q1 := hno L e l2 g1 g2 g3
              have q2 := congrArg List.length HPRS.out
              rw [prsE_len] at q2
              omega
            have F2 := Lib.hid (F1.out.trans (HFR.out.then_ f2 fun q hq h => by omega))
            have A2 := Lib.hid (A1.out.keep (HFR.out.then_ f2 fun q hq h => by omega) (fun h => h))
            clear hno f2 CR
            have z0 := A2.out.frozen 0
            have z1 := (A2.out.set_ 0 (.int .i64 0)).frozen 1
            have z2 := ((A2.out.set_ 0 (.int .i64 0)).set_ 1 (.int .i64 0)).frozen 2
            have y0 := A2.out.cell 0
            have y1 := (A2.out.set_ 0 (.int .i64 0)).cell 1
            have y2 := ((A2.out.set_ 0 (.int .i64 0)).set_ 1 (.int .i64 0)).cell 2
            have AZ := Lib.hid (((A2.out.set_ 0 (.int .i64 0)).set_ 1 (.int .i64 0)).set_ 2 (.int .i64 0))
            have FZ := Lib.hid (((F2.out.setCell (p := ⟨w.heap.size, 0, none⟩) (fun h => absurd h (Nat.lt_irrefl _)) (.int .i64 0)).setCell (p := ⟨w.heap.size, 1, none⟩) (fun h => absurd h (Nat.lt_irrefl _)) (.int .i64 0)).setCell (p := ⟨w.heap.size, 2, none⟩) (fun h => absurd h (Nat.lt_irrefl _)) (.int .i64 0))
            have HR := Lib.hid (HNO.out HNG.out _ FZ.out)
            go_wp2_with fail
            exact bodyPost_ret (read_results _ _ _ _ _ _ _ _ rfl rfl rfl AZ.out) rfl HR.out
        · have hkD : k = D := by omega
          subst hkD
          obtain ⟨p, hp⟩ : ∃ p, p + 1 = N := ⟨N - 1, by omega⟩
          have hpk : p = Ls.length + 1 := by rw [HLS.out]; have := HD.out; omega
          have hpi : (N : Int) - 1 = (p : Int) := by omega
          have hp0 : (0 : Int) ≤ (p : Int) := by omega
          have hpl : (p : Int) < (N : Int) := by omega
          have hwr : IntKind.i64.wrap ((N : Int) - 1) = (p : Int) := by rw [hpi]; exact IntWalk.i64_in _ (by omega)
          have hwm : IntKind.i64.wrap (p : Int) = (p : Int) := IntWalk.i64_in _ (by omega)
          obtain ⟨gb, go, rfl, hx⟩ := RC.out.get (i := p) (by rw [HXN.out]; omega)
          have hxb := HXG.out p (by omega)
          have hcx := HCAPS.out (xs[p]'(by rw [HXN.out]; omega)) (List.getElem_mem _)
          obtain ⟨x, hxe⟩ : ∃ x, xs[p]'(by rw [HXN.out]; omega) = x := ⟨_, rfl⟩
          rw [hxe] at hx hxb hcx
          have c0 := HFR.out.cell hx.c0 (fun h => h)
          have hrd := hx.rd.keep HFR.out
          have HXB := Lib.hid hxb
          have HPK := Lib.hid hpk
          have hxl : x.b.length ≤ 50000 := by
            have q := recs_short HB.out p
            rw [hxb, HN.out] at q
            omega
          obtain ⟨xa, xc, xb⟩ := x
          simp only at c0 hrd HXB hxl hcx
          by_cases hwg : wrong xb
          · have CP := Lib.hid (parse_no xa xb.length xc xb wr rfl hcx.1 hcx.2 hwg hrd)
            have HNG : Hid (∀ Ls' l', ¬ Good b Ls' l') := Lib.hid fun Ls' l' hG => hG.fil (by
              have q := hG.num
              rw [HNR.out] at q
              rw [show Ls'.length + 1 = p by omega, HXB.out]
              exact hwg)
            have F2 := Lib.hid (F1.out.trans HFR.out)
            have A2 := Lib.hid (A1.out.keep HFR.out (fun h => h))
            obtain ⟨xn, hxn⟩ : ∃ xn, xb.length = xn := ⟨_, rfl⟩
            rw [hxn] at c0 CP
            clear hx hrd hwg hxe hxn hxl hcx hpk hxb
            go_wp2_with fail
            refine (show Calls _ _ _ _ _ from CP.out).mono ?_
            rintro e2 w2 ⟨rfl, rfl⟩
            have z0 := A2.out.frozen 0
            have z1 := (A2.out.set_ 0 (.int .i64 0)).frozen 1
            have z2 := ((A2.out.set_ 0 (.int .i64 0)).set_ 1 (.int .i64 0)).frozen 2
            have y0 := A2.out.cell 0
            have y1 := (A2.out.set_ 0 (.int .i64 0)).cell 1
            have y2 := ((A2.out.set_ 0 (.int .i64 0)).set_ 1 (.int .i64 0)).cell 2
            have AZ := Lib.hid (((A2.out.set_ 0 (.int .i64 0)).set_ 1 (.int .i64 0)).set_ 2 (.int .i64 0))
            have FZ := Lib.hid (((F2.out.setCell (p := ⟨w.heap.size, 0, none⟩) (fun h => absurd h (Nat.lt_irrefl _)) (.int .i64 0)).setCell (p := ⟨w.heap.size, 1, none⟩) (fun h => absurd h (Nat.lt_irrefl _)) (.int .i64 0)).setCell (p := ⟨w.heap.size, 2, none⟩) (fun h => absurd h (Nat.lt_irrefl _)) (.int .i64 0))
            have HR := Lib.hid (HNO.out HNG.out _ FZ.out)
            go_wp2_with fail
            exact bodyPost_ret (read_results _ _ _ _ _ _ _ _ rfl rfl rfl AZ.out) rfl HR.out
          · have hnw : 9 ≤ xb.length ∧ xb.length ≤ 2097152 ∧ 1 ≤ (xb.getD 0 0).toNat ∧ (xb.getD 0 0).toNat ≤ 30 := by
              unfold wrong at hwg
              omega
            obtain ⟨y, fb, rfl⟩ : ∃ y fb, xb = y :: fb := by
              cases xb with
              | nil => simp at hnw
              | cons y fb => exact ⟨y, fb, rfl⟩
            simp only [List.getD_cons_zero] at hnw
            have CP := Lib.hid (bparse_c xa (y :: fb).length xc y fb wr rfl hcx.1 hcx.2 hnw.1 hnw.2.1 hnw.2.2.1 hnw.2.2.2 hrd)
            have HFB : Hid (fb.length ≤ 1000000000) := Lib.hid (by have := hnw.2.1; rw [List.length_cons] at this; omega)
            have HY : Hid (y = UInt8.ofNat y.toNat) := Lib.hid (by rw [UInt8.ofNat_toNat])
            have HGOOD : Hid (Good b Ls l) := Lib.hid ⟨H24.out, by rw [HNR.out]; omega, by rw [HLS.out]; omega, HFST.out, HPRS.out, HRT.out, HLL.out, by rw [← HPK.out, HXB.out]; exact hwg⟩
            have HP30 := Lib.hid hnw.2.2
            obtain ⟨xn, hxn⟩ : ∃ xn, (y :: fb).length = xn := ⟨_, rfl⟩
            rw [hxn] at c0 CP
            clear hx hrd hwg hxe hxn hxl hcx hpk hxb hnw
            go_wp2_with fail
            refine (show Calls _ _ _ _ _ from CP.out).mono ?_
            rintro e2 w2 ⟨bf, g, rfl, hf2, f2, zb, zg⟩
            have HT2 := Lib.hid (HTS.out.keep f2)
            obtain ⟨va, vc, hve, _⟩ := HT2.out.row.form
            obtain ⟨ln, hln⟩ : ∃ ln, l.length = ln := ⟨_, rfl⟩
            rw [hln] at hve hll
            subst hve
            have HLN := Lib.hid hln
            have z1 := HT2.out.hd.frozen 1
            have y1 := HT2.out.hd.cell 1
            simp at y1
            obtain ⟨t3, f3⟩ := HT2.out.setF (.pointer (some ⟨bf, 0, none⟩))
            have fo3 := fr_one w2 w1.heap.size 1 (.pointer (some ⟨bf, 0, none⟩))
            have hsz2 : w1.heap.size < wr.heap.size := HTS.out.hd.lt
            have HF3 := Lib.hid (hf2.keep fo3 (fun h => by have h : bf = w1.heap.size := h; omega) (fun h => by have h : g = w1.heap.size := h; omega))
            have FR3 := Lib.hid ((HFR.out.trans f2).then_ f3 fun q hq h => by omega)
            obtain ⟨W3, hW3⟩ : ∃ W3, w2.setCell ⟨w1.heap.size, 1, none⟩ (.pointer (some ⟨bf, 0, none⟩)) = W3 := ⟨_, rfl⟩
            rw [hW3] at t3 HF3 FR3
            have HT3 := Lib.hid t3
            have HW3 := Lib.hid hW3
            have e0 := t3.hd.cell 0
            simp at e0
            rw [← hW3] at e0
            have CB := Lib.hid (bitsOf_c W3 bf g fb y.toNat ln HF3.out HFB.out hll)
            have ZB : Hid (w.heap.size ≤ bf ∧ w.heap.size ≤ g ∧ w1.heap.size ≤ bf ∧ w1.heap.size + 1 < wr.heap.size) := Lib.hid (by
              have q1 := F1.out.size
              have q2 := HTS.out.op.lt
              omega)
            have ZBG : Hid (wr.heap.size ≤ bf ∧ wr.heap.size ≤ g) := Lib.hid ⟨zb, zg⟩
            clear t3 f3 fo3 hf2 f2 zb zg CP hW3 hln hll
            go_wp2_with fail
            rw [HW3.out]
            refine (show Calls _ _ _ _ _ from CB.out).mono ?_
            rintro e4 w4 ⟨rfl, f4⟩
            obtain ⟨bits, hbits⟩ : ∃ bits, bitsN ln fb.length y.toNat = bits := ⟨_, rfl⟩
            rw [hbits]
            have HBITS := Lib.hid hbits
            have HT4 := Lib.hid (HT3.out.keep f4)
            have z2 := HT4.out.op.frozen 2
            have y2 := HT4.out.op.cell 2
            simp at y2
            obtain ⟨t5, f5⟩ := HT4.out.setO 2 (bits : Int) ⟨blkL Ls, eL Ls, (bits : Int)⟩ rfl
            have fo5 := fr_one w4 (w1.heap.size + 1) 2 (.int .i64 (bits : Int))
            have HF5 := Lib.hid ((HF3.out.keep f4 (fun h => h) (fun h => h)).keep fo5 (fun h => by have h : bf = w1.heap.size + 1 := h; have := ZB.out; have := ZBG.out; omega) (fun h => by have h : g = w1.heap.size + 1 := h; have := ZB.out; have := ZBG.out; omega))
            have FR5 := Lib.hid ((FR3.out.trans f4).then_ f5 fun q hq h => by omega)
            obtain ⟨W5, hW5⟩ : ∃ W5, w4.setCell ⟨w1.heap.size + 1, 2, none⟩ (.int .i64 (bits : Int)) = W5 := ⟨_, rfl⟩
            rw [hW5] at t5 HF5 FR5
            have HT5 := Lib.hid t5
            have HW5 := Lib.hid hW5
            have A5 := Lib.hid (A1.out.keep FR5.out (fun h => h))
            have o0 := t5.op.cell 0
            have o1 := t5.op.cell 1
            have o2 := t5.op.cell 2
            simp at o0 o1 o2
            clear t5 f5 fo5 f4 CB hW5 hbits
            go_wp2_with fail
            rw [HW5.out]
            have z0 := A5.out.frozen 0
            have z1 := (A5.out.set_ 0 (.int .i64 (blkL Ls))).frozen 1
            have z2 := ((A5.out.set_ 0 (.int .i64 (blkL Ls))).set_ 1 (.int .i64 (eL Ls))).frozen 2
            have y0 := A5.out.cell 0
            have y1 := (A5.out.set_ 0 (.int .i64 (blkL Ls))).cell 1
            have y2 := ((A5.out.set_ 0 (.int .i64 (blkL Ls))).set_ 1 (.int .i64 (eL Ls))).cell 2
            have f9 := ((((Fr.refl (One w.heap.size) W5).setCell (p := ⟨w.heap.size, 0, none⟩) (fun _ => rfl) (.int .i64 (blkL Ls))).setCell (p := ⟨w.heap.size, 1, none⟩) (fun _ => rfl) (.int .i64 (eL Ls))).setCell (p := ⟨w.heap.size, 2, none⟩) (fun _ => rfl) (.int .i64 (bits : Int))).drew
            have AZ := Lib.hid ((((A5.out.set_ 0 (.int .i64 (blkL Ls))).set_ 1 (.int .i64 (eL Ls))).set_ 2 (.int .i64 (bits : Int))).keep (Fr.refl No _).drew (fun h => h))
            have hw1 : w.heap.size < w1.heap.size := by
              have := A1.out.lt
              exact this
            have HZ : Hid (RdRet b w (.returned (.tuple #[.pointer (some ⟨w1.heap.size, 0, none⟩), .agg #[.int .i64 (blkL Ls), .int .i64 (eL Ls), .int .i64 (bits : Int)], .bool true])) _) := Lib.hid (.inl ⟨Ls, l, w1.heap.size, .slice va ln vc, bf, g, fb, y.toNat, ⟨blkL Ls, eL Ls, (bits : Int)⟩, HGOOD.out, by rw [← HPK.out, HXB.out, ← HY.out], HP30.out.1, HP30.out.2, by rw [HLN.out, HBITS.out], rfl,
              by rw [HLS.out]; exact HT5.out.hd.keep f9 (fun h => by have h : w1.heap.size = w.heap.size := h; omega), HT5.out.row.keep f9 (fun q hq h => by have h : q = w.heap.size := h; have := HT5.out.own q hq; omega),
              HF5.out.keep f9 (fun h => by have h : bf = w.heap.size := h; have := ZB.out; omega) (fun h => by have h : g = w.heap.size := h; have := ZBG.out; have := ZB.out; omega), Nat.le_of_lt hw1, fun q hq => Nat.le_trans (Nat.le_of_lt hw1) (HT5.out.own q hq), ZB.out.1, ZB.out.2.1, (F1.out.trans FR5.out).then_ f9 fun q hq h => by have h : q = w.heap.size := h; omega⟩)
            clear f9
            all_goals go_region
            rename_i hKK
            refine hKK _ _ ?_
            clear hKK
            go_wp2_with fail
            exact bodyPost_ret (read_results _ _ _ _ _ _ _ _ rfl rfl rfl AZ.out) rfl HZ.out
end Go.Proofs.YtlobnbbndkhcbaaGreatDoor
