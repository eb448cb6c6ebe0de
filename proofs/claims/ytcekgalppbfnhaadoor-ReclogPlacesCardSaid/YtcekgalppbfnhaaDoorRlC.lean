/-
  Layer 9: the document's Scan.
-/
import Derived.Test.YtcekgalppbfnhaaDoorRlB
namespace Go.Proofs.YtcekgalppbfnhaaDoor
set_option linter.unusedVariables false
open Go.RowKit

theorem headF_same {r : List UInt8} {n k : Nat} (h : dec 9 0 (r.drop 4) = some (n, k)) (hn : n ≤ r.length - (4 + k)) :
    headF r = if frameL ((r.drop (4 + k)).take n) = r.take (4 + k + n) then some ((r.drop (4 + k)).take n, 4 + k + n) else none := by
  obtain ⟨b1, b2, b3, b4⟩ := body_parts h hn
  rw [headF_some h]
  have e : r.take (4 + k + n) = r.take 4 ++ (r.drop 4).take (k + n) := by rw [show 4 + k + n = 4 + (k + n) by omega, List.take_add]
  have e2 : (n ≤ r.length - (4 + k) ∧ r.take 4 = wordL (sumW ((r.drop 4).take (k + n)))) ↔ frameL ((r.drop (4 + k)).take n) = r.take (4 + k + n) := by
    rw [e]
    unfold frameL
    rw [← b3]
    constructor
    · rintro ⟨_, h2⟩
      rw [h2]
    · intro h2
      refine ⟨hn, ?_⟩
      exact ((List.append_inj h2 (by rw [wordL_length, List.length_take]; omega)).1).symm
  by_cases hc : frameL ((r.drop (4 + k)).take n) = r.take (4 + k + n)
  · rw [if_pos hc, if_pos (e2.2 hc)]
  · rw [if_neg hc, if_neg fun h => hc (e2.1 h)]
/-- What Scan tells. -/
def ScanRet (l : List UInt8) (w : World) (e : Ending) (w' : World) : Prop :=
  ∃ v xs, e = .returned (.tuple #[v, .int .i64 ((framesL (scanL l)).length : Int)]) ∧ TxR w' w.heap.size v xs ∧ xs.map Tx.b = scanL l ∧ Fr No w w'
theorem ScanRet.mk {l : List UInt8} {w w' : World} {v : Value} {xs : List Tx} {k : Nat} (hl : l.length ≤ 1000000) (hr : TxR w' w.heap.size v xs) (hf : Fr No w w') (hk : k ≤ l.length) (ht : l.take k = framesL (xs.map Tx.b)) (hh : headF (l.drop k) = none) :
    ScanRet l w (.returned (.tuple #[v, .int .i64 (k : Int)])) w' := by
  have hs := scn_end ht hh
  have e := scanL_eq (by omega) hs
  refine ⟨v, xs, ?_, hr, e.symm, hf⟩
  rw [e, ← ht, List.length_take, Nat.min_eq_left hk]
theorem readI_none {l : List UInt8} {at_ : Nat} (h : dec 9 0 (l.drop at_) = none) : readI at_ l = (0, -1) := by
  unfold readI decI fin_
  rw [h]
  rfl
theorem readI_some {l : List UInt8} {at_ n k : Nat} (h : dec 9 0 (l.drop at_) = some (n, k)) : readI at_ l = ((n : Int), ((at_ + k : Nat) : Int)) := by
  unfold readI decI fin_
  rw [h]
  simp only
  rw [if_neg (by omega)]
  simp
set_option maxRecDepth 20000 in
set_option maxHeartbeats 3200000 in
theorem refScan_c (a : Option Addr) (len cap : Nat) (l : List UInt8) (w : World) (hl : l.length = len) (hm : len ≤ 100000) (hc : len ≤ cap) (hr : Rd w a l) :
    Calls Tryd.prog 15 #[.slice a len cap] w (ScanRet l w) := by
  have HR := Lib.hid hr
  have HL := Lib.hid hl
  have HRD := Lib.hid (fun (wr : World) (f : Fr No w wr) (at_ : Nat) (h : at_ ≤ len) => read_c a len cap at_ l wr hl (by omega) h (hr.keep f))
  have HEND := Lib.hid (fun (w' : World) (v : Value) (xs : List Tx) (k : Nat) h1 h2 h3 h4 h5 => ScanRet.mk (l := l) (w := w) (w' := w') (v := v) (xs := xs) (k := k) (by omega) h1 h2 h3 h4 h5)
  rw [hl] at HEND
  have HCUT := Lib.hid (fun (lo hi : Nat) (h1 : lo ≤ hi) (h2 : hi ≤ cap) (w : World) => cut_both (P := Tryd.prog) Tryd.underlying22 sizeU8 a len cap lo hi h1 h2 w)
  clear hr hl
  go_enter Tryd.func15, Tryd.ntmps15
  go_wp2_with fail
  go_loopw [4, 5] (fun v i wr => ∃ (k : Nat) (xs : List Tx), i = .int .i64 k ∧ k ≤ len ∧ TxR wr w.heap.size v xs ∧ l.take k = framesL (xs.map Tx.b) ∧ Fr No w wr) (fun _ i _ => len - (intOf i).toNat)
  case atStart => exact ⟨0, [], rfl, Nat.zero_le _, TxR.nil _ _, rfl, Fr.refl _ _⟩
  case round =>
    obtain ⟨k, xs, rfl, hk, htx, htk, hfr⟩ := hrel
    have HTX := Lib.hid htx
    have HTK := Lib.hid htk
    have HF := Lib.hid hfr
    obtain ⟨va, vc, rfl, v1, v2, _⟩ := htx.texts
    unfold maxLen at v2
    obtain ⟨xn, hxn⟩ : ∃ n, xs.length = n := ⟨_, rfl⟩
    have HXN := Lib.hid hxn
    have hcount : xn ≤ len := by
      have h1 := framesL_count (xs.map Tx.b)
      rw [← htk, List.length_take, List.length_map, hxn] at h1
      omega
    rw [hxn] at v1 HTX
    rw [hxn]
    clear htx htk hfr hxn
    by_cases h4 : k + 4 ≤ len
    · have hlen4 : (l.drop k).length = len - k := by rw [List.length_drop, HL.out]
      have hdd : (l.drop k).drop 4 = l.drop (k + 4) := by rw [List.drop_drop]
      have HC1 := HRD.out wr HF.out (k + 4) h4
      rw [show ((k + 4 : Nat) : Int) = (k : Int) + 4 by omega] at HC1
      cases hd : dec 9 0 (l.drop (k + 4)) with
      | none =>
        rw [readI_none hd] at HC1
        have HE := Lib.hid (HEND.out wr _ xs k HTX.out HF.out hk HTK.out (headF_none (by rw [hdd]; exact hd)))
        have HC1 := Lib.hid HC1
        clear hd hdd
        go_wp2_with fail
        refine (show Calls _ _ _ _ _ from HC1.out).mono ?_
        rintro e w1 ⟨rfl, rfl⟩
        unfold retII
        go_wp2_with fail
        go_ret2
        exact HE.out
      | some p =>
        obtain ⟨n, s⟩ := p
        obtain ⟨s1, s2, s3, s4⟩ := dec_lt9 _ _ _ hd
        rw [readI_some hd] at HC1
        rw [List.length_drop, HL.out] at s2
        have HC1 := Lib.hid HC1
        obtain ⟨g, hg⟩ : ∃ g, k + 4 + s = g := ⟨_, rfl⟩
        rw [hg] at HC1
        have hd2 : dec 9 0 ((l.drop k).drop 4) = some (n, s) := by rw [hdd]; exact hd
        by_cases hn : n ≤ len - g
        · have hh := headF_same hd2 (by rw [hlen4]; omega)
          obtain ⟨b1, b2, b3, b4⟩ := body_parts hd2 (by rw [hlen4]; omega)
          have e1 : (l.drop k).drop (4 + s) = l.drop g := by rw [List.drop_drop, ← Nat.add_assoc, hg]
          rw [e1] at hh b2
          obtain ⟨x, hx⟩ : ∃ x, (l.drop g).take n = x := ⟨_, rfl⟩
          rw [hx] at hh b2
          have E := Lib.hid (show 4 + s + n = g + n - k by omega)
          rw [E.out] at hh
          have hd3 : decide ((len : Int) - (g : Int) < (n : Int)) = false := by rw [decide_eq_false_iff_not]; omega
          have hd4 : decide ((g : Int) < 0) = false := by rw [decide_eq_false_iff_not]; omega
          have K1 := HCUT.out g (g + n) (by omega) (by omega)
          have K2 := HCUT.out k (g + n) (by omega) (by omega)
          rw [show ((g + n : Nat) : Int) = (g : Int) + (n : Int) by omega] at K1 K2
          rw [show g + n - g = n by omega] at K1
          obtain ⟨t, ht⟩ : ∃ t, g + n - k = t := ⟨_, rfl⟩
          rw [ht] at K2 hh
          have hrd1 : Rd wr (cutAt a g cap) x := by
            rw [← hx]
            exact (((HR.out.keep HF.out).drop g cap (by rw [HL.out]; omega)).take n)
          have hrd2 : Rd wr (cutAt a k cap) ((l.drop k).take t) := ((HR.out.keep HF.out).drop k cap (by rw [HL.out]; omega)).take t
          have hlt : ((l.drop k).take t).length = t := by rw [List.length_take, hlen4]; omega
          have HC2 := Lib.hid (copyRef_c (cutAt a g cap) n (cap - g) x wr b2 (by omega) hrd1)
          have HRD2 := Lib.hid hrd2
          have HLT := Lib.hid hlt
          have HH := Lib.hid hh
          have HX := Lib.hid hx
          have HXL := Lib.hid b2
          have hgk : k < g := by omega
          have hgl : g + n ≤ len := by omega
          have htn : g + n = k + t := by omega
          clear hh hx hrd1 hrd2 hlt b1 b2 b3 b4 e1 hd2 hd hdd hlen4 E s2 s1 s3 hn
          generalize cutAt a g cap = a1 at *
          generalize cutAt a k cap = a2 at *
          obtain ⟨cg, hcg⟩ : ∃ c, cap - g = c := ⟨_, rfl⟩
          obtain ⟨ck, hck⟩ : ∃ c, cap - k = c := ⟨_, rfl⟩
          rw [hcg] at K1 HC2
          rw [hck] at K2
          go_wp2_with fail
          refine (show Calls _ _ _ _ _ from HC1.out).mono ?_
          rintro e w1 ⟨rfl, rfl⟩
          unfold retII
          go_wp2_with fail
          refine (show Calls _ _ _ _ _ from HC2.out).mono ?_
          rintro e w1 ⟨vx, rfl, rx, fx⟩
          obtain ⟨xa, xc, rfl, x1, x2, xin⟩ := rx.form
          rw [HXL.out] at x1
          rw [HXL.out]
          have HC3 := Lib.hid (refFrame_c xa n xc x w1 HXL.out (by omega) xin.rd)
          have HXI := Lib.hid xin
          have HF1 := Lib.hid fx
          clear HC2 rx fx xin
          go_wp2_with fail
          refine (show Calls _ _ _ _ _ from HC3.out).mono ?_
          rintro e w2 ⟨vf, rfl, rf, ff⟩
          obtain ⟨fa, fc, rfl, f1, f2, fin⟩ := rf.form
          obtain ⟨fl, hfl⟩ : ∃ n, (frameL x).length = n := ⟨_, rfl⟩
          rw [hfl] at f1
          rw [hfl]
          have HC4 := Lib.hid (same_c fa a2 fl fc t ck (frameL x) ((l.drop k).take t) w2 hfl HLT.out fin.rd (HRD2.out.keep (HF1.out.trans ff)))
          have HXI2 := Lib.hid (HXI.out.keep ff (fun _ _ h => h))
          have HF2 := Lib.hid (HF1.out.trans ff)
          clear HC3 rf ff fin HXI
          by_cases heq : frameL x = (l.drop k).take t
          · rw [show (frameL x == (l.drop k).take t) = true by rw [heq]; exact beq_self_eq_true _] at HC4
            have hst := scn_step HTK.out (by rw [HL.out]; exact hk) (by rw [HH.out, if_pos heq])
            obtain ⟨h1, h2, h3⟩ := hst
            obtain ⟨v', W, hrun, htx, hfp⟩ := (HTX.out.keep HF2.out (fun _ _ _ h => h)).push ⟨xa, xc, x⟩ (HXI2.out.sub fun q _ hq => hq.elim (fun h => h.elim) fun hq => ⟨by have := HF.out.size; omega, fun e => by
              have := (HTX.out.row.1.lt q e).2
              omega⟩) (Nat.le_trans HF.out.size HF2.out.size) (by rw [HXN.out]; omega)
            simp only at hrun
            rw [HXL.out] at hrun
            have HRUN := Lib.hid hrun
            have HTX2 := Lib.hid htx
            have HF3 : Hid (Fr No w W) := Lib.hid ((HF.out.trans HF2.out).then_ hfp fun q hq e => by
              have := HTX.out.own q e
              omega)
            have HTK2 : Hid (l.take (k + t) = framesL ((xs ++ [Tx.mk xa xc x]).map Tx.b)) := Lib.hid (by
              rw [List.map_append]
              exact h1)
            rw [HL.out] at h2
            clear hrun htx hfp HTX HTK HF HF1 HF2 HXI2 h1 h3 heq HH
            go_wp2_with fail
            refine (show Calls _ _ _ _ _ from HC4.out).mono ?_
            rintro e w3 ⟨rfl, rfl⟩
            go_wp2_with (at_builtin; refine wpList_append_run rfl _ _ 25 rfl rfl rfl HRUN.out ?_)
            go_roundw
            case rel => exact ⟨k + t, xs ++ [Tx.mk xa xc x], by rw [show ((k + t : Nat) : Int) = (g : Int) + (n : Int) by omega], h2, HTX2.out, HTK2.out, HF3.out⟩
            case measure => simp [intOf]; omega
          · rw [show (frameL x == (l.drop k).take t) = false by rw [beq_eq_false_iff_ne]; exact heq] at HC4
            have HE := Lib.hid (HEND.out w2 _ xs k (HTX.out.keep HF2.out (fun _ _ _ h => h)) (HF.out.trans HF2.out) hk HTK.out (by rw [HH.out, if_neg heq]))
            clear HTX HTK HF HF1 HF2 HXI2 heq HH
            go_wp2_with fail
            refine (show Calls _ _ _ _ _ from HC4.out).mono ?_
            rintro e w3 ⟨rfl, rfl⟩
            go_wp2_with fail
            go_ret2
            exact HE.out
        · have hh : headF (l.drop k) = none := by
            rw [headF_some hd2, if_neg]
            rintro ⟨h, _⟩
            rw [hlen4] at h
            omega
          have hd3 : decide ((len : Int) - (g : Int) < (n : Int)) = true := by rw [decide_eq_true_eq]; omega
          have hd4 : decide ((g : Int) < 0) = false := by rw [decide_eq_false_iff_not]; omega
          have HE := Lib.hid (HEND.out wr _ xs k HTX.out HF.out hk HTK.out hh)
          clear hh hd2 hd hdd hlen4
          go_wp2_with fail
          refine (show Calls _ _ _ _ _ from HC1.out).mono ?_
          rintro e w1 ⟨rfl, rfl⟩
          unfold retII
          go_wp2_with fail
          go_ret2
          exact HE.out
    · have hh : headF (l.drop k) = none := headF_short (by rw [List.length_drop, HL.out]; omega)
      have HE := Lib.hid (HEND.out wr _ xs k HTX.out HF.out hk HTK.out hh)
      clear hh
      go_wp2_with fail
      go_ret2
      exact HE.out
end Go.Proofs.YtcekgalppbfnhaaDoor
