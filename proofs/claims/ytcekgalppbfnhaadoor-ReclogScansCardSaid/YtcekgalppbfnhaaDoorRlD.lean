/-
  Layer 9: the iterator over the frames of bytes.
-/
import Derived.RangeFuncNested
import Derived.RangeFuncBound
import Derived.RangeFuncCalls
import Derived.RangeFuncLeaves
import Derived.Shelf.Abstract
import Derived.Shelf.RegionOpen
import Derived.WalkKit
import Derived.OwnWalkIn
import Derived.TacticsInMore
import Derived.LoopNIn
import Derived.LoopIn
import Derived.Test.YtcekgalppbfnhaaDoorRlC
namespace Go.Proofs.YtcekgalppbfnhaaDoor
set_option linter.unusedVariables false
open Go.RowKit Go.Shelf
attribute [local go_sem] Oper.semAt_some

theorem round_ok {r word l1 rec l2 : List UInt8} {b1 : Bool} (h1 : takeS 0 4 (r, false) = (word, (l1, b1))) (h2 : textS (l1, b1) = (rec, (l2, false))) :
    ∃ n s, dec 9 0 (r.drop 4) = some (n, s) ∧ n ≤ r.length - (4 + s) ∧ 4 ≤ r.length ∧ word = r.take 4 ∧ l1 = r.drop 4 ∧ rec = (r.drop (4 + s)).take n ∧ l2 = r.drop (4 + s + n) := by
  unfold takeS at h1
  split at h1
  · simp only [Prod.mk.injEq] at h1
    obtain ⟨_, _, rfl⟩ := h1
    rw [textS_bad] at h2
    simp at h2
  · rename_i hc
    simp only [Prod.mk.injEq, List.drop_zero, Nat.zero_add] at h1
    obtain ⟨rfl, rfl, rfl⟩ := h1
    have h4 : 4 ≤ r.length := by
      simp at hc
      omega
    unfold textS at h2
    simp only at h2
    split at h2
    · simp at h2
    · rename_i n s hd
      unfold takeS at h2
      split at h2
      · simp at h2
      · rename_i hc2
        simp only [Prod.mk.injEq, Int.toNat_natCast] at h2
        obtain ⟨rfl, rfl, _⟩ := h2
        have hd := hd
        obtain ⟨s1, s2, s3, s4⟩ := dec_lt9 _ _ _ hd
        simp only [Bool.false_eq_true, false_or, not_or, List.length_drop] at hc2
        rw [List.length_drop] at s2
        refine ⟨n, s, hd, ?_, h4, rfl, rfl, ?_, ?_⟩
        · have := hc2.2
          omega
        · rw [List.drop_drop]
          rfl
        · rw [List.drop_drop, ← Nat.add_assoc]
          rfl
theorem if_pos' {α : Type} {p q : Prop} [Decidable p] [Decidable q] [Decidable (p ∧ q)] {a b : α} (h : p) : (if p ∧ q then a else b) = if q then a else b := by
  by_cases hq : q
  · rw [if_pos ⟨h, hq⟩, if_pos hq]
  · rw [if_neg (fun hh => hq hh.2), if_neg hq]
theorem round_bad {r word l1 rec l2 : List UInt8} {b1 : Bool} (h1 : takeS 0 4 (r, false) = (word, (l1, b1))) (h2 : textS (l1, b1) = (rec, (l2, true))) : headF r = none := by
  unfold takeS at h1
  split at h1
  · rename_i hc
    refine headF_short ?_
    simp at hc
    omega
  · rename_i hc
    simp only [Prod.mk.injEq, List.drop_zero, Nat.zero_add] at h1
    obtain ⟨rfl, rfl, rfl⟩ := h1
    unfold textS at h2
    simp only at h2
    split at h2
    · rename_i hd
      exact headF_none hd
    · rename_i n s hd
      unfold takeS at h2
      split at h2
      · rename_i hc2
        have hd := hd
        obtain ⟨s1, s2, s3, s4⟩ := dec_lt9 _ _ _ hd
        simp only [Bool.false_eq_true, false_or, List.length_drop] at hc2
        rw [List.length_drop] at s2
        have hd : dec 9 0 (r.drop 4) = some (n, s) := hd
        rw [headF_some hd, if_neg]
        rintro ⟨h, _⟩
        rcases hc2 with hc2 | hc2 <;> omega
      · simp at h2
theorem takeS_rest (ah : Nat) (n : Int) (st : St) : (takeS ah n st).2.1.length ≤ st.1.length := by
  unfold takeS
  split
  · exact Nat.le_refl _
  · show (st.1.drop _).length ≤ _
    rw [List.length_drop]
    omega
theorem Rr.sub {w : World} {B : Nat} {S T : Nat → Prop} {st : St} (h : Rr w B S st) (hs : ∀ k, S k → T k) (hT : ¬ T B) : Rr w B T st := by
  obtain ⟨a, cap, h1, h2, h3, h4, h5⟩ := h
  exact ⟨a, cap, h1, h2, h3, h4.sub fun k _ hk => hs k hk, hT⟩
theorem rleft_q {w : World} {B : Nat} {S : Nat → Prop} {st : St} (hr : Rr w B S st) (n : Nat) :
    Calls Tryd.prog 62 #[.pointer (some ⟨B, 0, none⟩)] (w.drewN n) fun e w' => e = .returned (.int .i64 (st.1.length : Int)) ∧ ∃ m, w' = w.drewN m :=
  Calls.quiet_of_same ((rleft_c _ B S st (hr.keep ((Fr.refl No w).drewN n) (fun h => h) (fun _ _ h => h))).mono fun _ _ h => ⟨h.1, h.2.symm⟩)
/-- What a reader has left, read off the memory. -/
def leftR (w : World) (p : Value) : Nat := match p with
  | .pointer (some a) => match w.cell? a with
    | some (.slice _ n _) => n
    | _ => 0
  | _ => 0
theorem leftR_is {w : World} {B : Nat} {S : Nat → Prop} {st : St} (h : Rr w B S st) : leftR w (.pointer (some ⟨B, 0, none⟩)) = st.1.length := by
  obtain ⟨a, cap, h1, _⟩ := h
  unfold leftR
  simp only
  rw [h1.cell 0]
  rfl
set_option maxRecDepth 100000 in
set_option maxHeartbeats 2000000 in
theorem frames_in (n : Nat) (hn : 1 ≤ n) (y X : Nat) (a : Option Addr) (cap : Nat) (b : List UInt8) (hb : b.length ≤ 100000) (hbc : b.length ≤ cap) (T0 : Nat → Prop) (J : Nat → List Tx → World → Prop) (W : World)
    (hY : ∀ (Br : Nat) (pre : List Tx) (x : Tx) (W1 : World), J Br pre W1 → W.heap.size ≤ Br → Br < W1.heap.size → pre.length ≤ b.length → In W1 (fun k => W.heap.size ≤ k ∧ k < Br) x.a x.b →
      YieldAt Fence.wide (n - 1) Tryd.prog y #[.int .i64 ((framesL ((pre ++ [x]).map Tx.b)).length : Int), .slice x.a x.b.length x.c] W1 fun e W' => e = .returned (.bool true) ∧ J Br (pre ++ [x]) W' ∧ Fr (fun k => T0 k ∨ Br < k) W1 W')
    (hJ : ∀ (Br : Nat) (pre : List Tx) (W1 W' : World), J Br pre W1 → W.heap.size ≤ Br → Fr (One Br) W1 W' → J Br pre W')
    (c0 : W.cell? ⟨X, 0, none⟩ = some (.slice a b.length cap)) (x0 : ¬ T0 X) (hr : In W (fun k => ¬ T0 k) a b) (ht : Tab W) (t0 : ¬ T0 0) (hT : ∀ k, T0 k → k < W.heap.size)
    (h0 : ∀ Br, W.heap.size ≤ Br → J Br [] W) :
    CallsIn Fence.wide n Tryd.prog 59 #[.func (.yield y) #[] #[], .pointer (some ⟨X, 0, none⟩)] W fun e W' => (∃ v, e = .returned v) ∧ ∃ Br xs, W.heap.size ≤ Br ∧ xs.map Tx.b = scanL b ∧ J Br xs W' := by
  have HY := Lib.hid hY
  have HJ := Lib.hid hJ
  have HR := Lib.hid hr
  have HTAB := Lib.hid ht
  have HT := Lib.hid hT
  have H0 := Lib.hid h0
  have HX0 := Lib.hid x0
  have hX := cell_block c0
  simp only at hX
  have hG := cell_block (ht 0 (by omega))
  simp only at hG
  have HNR := Lib.hid (newr_c a b.length cap b W rfl (by omega) hr.rd)
  have HEND := Lib.hid (fun (xs : List Tx) (k : Nat) (h1 : b.take k = framesL (xs.map Tx.b)) (h2 : headF (b.drop k) = none) => (scanL_eq (by omega) (scn_end h1 h2)).symm)
  have HSTEP := Lib.hid (fun (pre : List (List UInt8)) (x : List UInt8) (t k : Nat) (h : b.take k = framesL pre) (hk : k ≤ b.length) (hh : headF (b.drop k) = some (x, t)) => scn_step h hk hh)
  obtain ⟨len, hlen⟩ : ∃ n, b.length = n := ⟨_, rfl⟩
  have HL := Lib.hid hlen
  rw [hlen] at c0 hb hbc HNR
  have HCUT := Lib.hid (fun (lo hi : Nat) (h1 : lo ≤ hi) (h2 : hi ≤ cap) (w : World) => cut_both (P := Tryd.prog) Tryd.underlying22 sizeU8 a len cap lo hi h1 h2 w)
  clear hY hJ hr ht hT h0 x0 hlen
  refine callsIn_of_wp Tryd.func59 rfl trivial ?_ rfl
  simp only [Tryd.ntmps59, List.size_toArray, List.length_cons, List.length_nil, Nat.reduceAdd, Nat.reduceSub, Array.replicate_succ, Array.replicate_zero, List.push_toArray, List.append_toArray, List.nil_append, List.cons_append]
  refine wpIn_wide.2 ?_
  go_wp2_with fail
  refine (show Calls _ _ _ _ _ from HNR.out).mono ?_
  rintro e W1 ⟨Br, S, rfl, rr, f1, hBr, hS⟩
  have HRR := Lib.hid (rr.sub (T := fun k => W.heap.size ≤ k ∧ k < Br) hS (fun h => Nat.lt_irrefl _ h.2))
  have HF1 := Lib.hid f1
  clear rr f1 hS HNR
  go_wp2_with fail
  refine (wpIn_wide (n := n)).1 ?_
  gi_loopw [] (fun wr => ∃ (pre : List Tx) (k : Nat), k ≤ len ∧ Rr wr Br (fun k => W.heap.size ≤ k ∧ k < Br) (b.drop k, false) ∧ J Br pre wr ∧ b.take k = framesL (pre.map Tx.b) ∧ Fr (fun q => T0 q ∨ W.heap.size ≤ q) W wr) (fun wr => leftR wr (.pointer (some ⟨Br, 0, none⟩)))
  case atStart =>
    exact ⟨[], 0, Nat.zero_le _, HRR.out, HJ.out _ _ _ _ (H0.out Br hBr) hBr (HF1.out.sub fun _ _ h => h.elim), rfl, HF1.out.sub fun _ _ h => h.elim⟩
  case round =>
    obtain ⟨pre, k, hk, hrr, hj, htk, hfr⟩ := hrel
    have hrlen := leftR_is hrr
    simp only at hrlen
    have hlr : (b.drop k).length = len - k := by rw [List.length_drop, HL.out]
    rw [hlr] at hrlen
    have HLEFT := Lib.hid hrlen
    have HC1 := Lib.hid (rraw_c 4 wr Br (fun k => W.heap.size ≤ k ∧ k < Br) (b.drop k, false) hrr (by omega))
    have c0r := hfr.cell (p := ⟨X, 0, none⟩) c0 (fun h => h.elim HX0.out fun h => by simp only at h; omega)
    obtain ⟨word, l1, b1, h1⟩ : ∃ word l1 b1, takeS 0 4 (b.drop k, false) = (word, (l1, b1)) := ⟨_, _, _, rfl⟩
    obtain ⟨rec, l2, b2, h2⟩ : ∃ rec l2 b2, textS (l1, b1) = (rec, (l2, b2)) := ⟨_, _, _, rfl⟩
    rw [h1] at HC1
    have hl1 : l1.length ≤ (b.drop k).length := by
      have := takeS_rest 0 4 (b.drop k, false)
      rw [h1] at this
      exact this
    rw [hlr] at hl1
    obtain ⟨n1, hn1⟩ : ∃ n, l1.length = n := ⟨_, rfl⟩
    rw [hn1] at hl1
    have HFR := Lib.hid hfr
    have HJR := Lib.hid hj
    have HTK := Lib.hid htk
    have HN1 := Lib.hid hn1
    clear hrr hj htk hfr hrlen hn1
    cases b2 with
    | true =>
      have HBAD := Lib.hid (round_bad h1 h2)
      have H2 := Lib.hid h2
      clear h1 h2
      refine wpIn_wide.2 ?_
      go_wp2_with fail
      refine (show Calls _ _ _ _ _ from HC1.out).mono ?_
      rintro e w1 ⟨aw, cw, rfl, hin, rr, f1⟩
      have c0w := f1.cell (p := ⟨X, 0, none⟩) c0r (fun h => by have h : X = Br := h; omega)
      have HC2 := Lib.hid (fun m => rleft_q rr m)
      rw [show (l1, b1).1.length = n1 from HN1.out] at HC2
      have HC3 := Lib.hid (fun m => rtext_c (w1.drewN m) Br _ _ (rr.keep ((Fr.refl No w1).drewN m) (fun h => h) (fun _ _ h => h)))
      rw [H2.out] at HC3
      have HF1 := Lib.hid f1
      clear rr hin f1 HC1
      generalize word.length = wn at *
      go_wp2_with fail
      go_quiet (exact HC2.out _)
      go_wp2_with fail
      refine (show Calls _ _ _ _ _ from HC3.out _).mono ?_
      rintro e w2 ⟨ar, cr, rfl, hin, rr, f2⟩
      have HC4 := Lib.hid (rbad_c w2 Br _ _ rr)
      have HF2 := Lib.hid f2
      clear rr hin f2 HC2 HC3
      generalize rec.length = rn at *
      go_wp2_with fail
      refine (show Calls _ _ _ _ _ from HC4.out).mono ?_
      rintro e w3 ⟨rfl, rfl⟩
      go_wp2_with fail
      refine bodyPost_ret (results_none rfl _ _ _) rfl ?_
      refine ⟨⟨_, rfl⟩, Br, pre, hBr, HEND.out _ _ HTK.out HBAD.out, HJ.out _ _ _ _ HJR.out hBr ((HF1.out.drewN _).trans HF2.out)⟩
    | false =>
      obtain ⟨nn, ss, hd, hnn, h4, rfl, rfl, rfl, rfl⟩ := round_ok h1 h2
      have H2 := Lib.hid h2
      obtain ⟨g1, g2, g3, g4⟩ := body_parts hd hnn
      have hh := headF_some hd
      rw [hlr] at hnn h4 g1
      rw [hlr, if_pos' hnn] at hh
      obtain ⟨xx, hx⟩ : ∃ x, ((b.drop k).drop (4 + ss)).take nn = x := ⟨_, rfl⟩
      obtain ⟨E, hE⟩ : ∃ E, k + (4 + ss + nn) = E := ⟨_, rfl⟩
      obtain ⟨F, hF⟩ : ∃ F, k + 4 = F := ⟨_, rfl⟩
      have hel : E ≤ len := by omega
      have hFE : F ≤ E := by omega
      have hn1 : n1 = len - F := by
        rw [← HN1.out, List.length_drop, hlr]
        omega
      subst hn1
      rw [hx] at hh g2
      have e2 : (b.drop k).drop (4 + ss + nn) = b.drop E := by rw [List.drop_drop, hE]
      rw [e2, hx] at H2
      have hl2 : (b.drop E).length = len - E := by rw [List.length_drop, HL.out]
      obtain ⟨body, hbody⟩ : ∃ l, ((b.drop k).drop 4).take (ss + nn) = l := ⟨_, rfl⟩
      have hbl : body.length = E - F := by
        rw [← hbody, List.length_take, List.length_drop, hlr]
        omega
      obtain ⟨word, hword⟩ : ∃ l, (b.drop k).take 4 = l := ⟨_, rfl⟩
      have hwl : word.length = 4 := by
        rw [← hword, List.length_take, hlr]
        omega
      rw [hbody, hword] at hh
      rw [hword] at HC1
      have e1 : (b.drop k).drop 4 = b.drop F := by rw [List.drop_drop, hF]
      have hrdb : Rd W (cutAt a F cap) body := by
        rw [← hbody, e1]
        exact (HR.out.rd.drop F cap (by rw [HL.out]; omega)).take _
      have K := HCUT.out F E hFE (by omega)
      have HST := Lib.hid (fun h => HSTEP.out (pre.map Tx.b) xx (4 + ss + nn) k HTK.out (by rw [HL.out]; exact hk) h)
      rw [hE] at HST
      have HHH := Lib.hid hh
      have HX := Lib.hid hx
      have HRB : Hid (In W (fun k => ¬ T0 k) (cutAt a F cap) body) := Lib.hid (by
        rw [← hbody, e1]
        exact (HR.out.drop F cap (by rw [HL.out]; omega)).take _)
      have HWL := Lib.hid hwl
      have HBL := Lib.hid hbl
      have HG2 := Lib.hid g2
      have hFw : (len : Int) - ((len - F : Nat) : Int) = (F : Int) := by omega
      have hEw : (len : Int) - ((len - E : Nat) : Int) = (E : Int) := by omega
      clear h1 h2 hd hrdb hh hx hbody hword e1 e2 g3 g4 hnn hwl hbl g2
      refine wpIn_wide.2 ?_
      go_wp2_with fail
      refine (show Calls _ _ _ _ _ from HC1.out).mono ?_
      rintro e w1 ⟨aw, cw, rfl, hin, rr, f1⟩
      rw [HWL.out]
      have c0w := f1.cell (p := ⟨X, 0, none⟩) c0r (fun h => by have h : X = Br := h; omega)
      have HC2 := Lib.hid (fun m => rleft_q rr m)
      rw [HN1.out] at HC2
      have HC3 := Lib.hid (fun m => rtext_c (w1.drewN m) Br _ _ (rr.keep ((Fr.refl No w1).drewN m) (fun h => h) (fun _ _ h => h)))
      rw [H2.out] at HC3
      have HF1 := Lib.hid f1
      have HWI := Lib.hid (fun m => hin.keep ((Fr.refl No w1).drewN m) (fun _ _ h => h))
      clear rr hin f1 HC1
      go_wp2_with fail
      go_quiet (exact HC2.out _)
      go_wp2_with fail
      refine (show Calls _ _ _ _ _ from HC3.out _).mono ?_
      rintro e w2 ⟨ar, cr, rfl, hin, rr, f2⟩
      rw [HG2.out]
      have hcr := hin
      have c0v := (f2.cell (p := ⟨X, 0, none⟩) (((Fr.refl No w1).drewN _).cell c0w (fun h => h)) (fun h => by have h : X = Br := h; omega))
      have HC4 := Lib.hid (rbad_c w2 Br _ _ rr)
      have HC5 := Lib.hid (fun m => rleft_q rr m)
      rw [show (b.drop E, false).1.length = len - E by rw [List.length_drop, HL.out]] at HC5
      have HRR2 := Lib.hid rr
      have HIN2 := Lib.hid hin
      have HWI2 := Lib.hid ((HWI.out _).keep f2 (fun q hq h => by have h : q = Br := h; have := hq.2; omega))
      have HF2 := Lib.hid ((HF1.out.drewN _).trans f2)
      clear rr hin f2 hcr HC2 HC3 HWI HF1
      go_wp2_with fail
      refine (show Calls _ _ _ _ _ from HC4.out).mono ?_
      rintro e w3 ⟨rfl, rfl⟩
      go_wp2_with fail
      go_quiet (exact HC5.out _)
      rename_i hK
      refine hK _ _ ((wpIn_wide (n := n)).1 ?_)
      clear hK
      have HFQ := Lib.hid (HF2.out.drewN nq)
      have HIN3 := Lib.hid (HIN2.out.keep ((Fr.refl No w2).drewN nq) (fun _ _ h => h))
      have HWI3 := Lib.hid (HWI2.out.keep ((Fr.refl No w2).drewN nq) (fun _ _ h => h))
      have HRR3 := Lib.hid (HRR2.out.keep ((Fr.refl No w2).drewN nq) (fun h => h) (fun _ _ h => h))
      have c0q := ((Fr.refl No w2).drewN nq).cell c0v (fun h => h)
      clear HF2 HIN2 HWI2 HRR2 c0v c0w HC4 HC5
      obtain ⟨wq, hwq⟩ : ∃ x, w2.drewN nq = x := ⟨_, rfl⟩
      rw [hwq] at HFQ HIN3 HWI3 HRR3 c0q ⊢
      clear hwq
      have HFW : Hid (Fr (fun q => T0 q ∨ W.heap.size ≤ q) W wq) := Lib.hid (HFR.out.then_ HFQ.out fun q hq h => by have h : q = Br := h; exact .inr (by omega))
      have HSU := Lib.hid (sumOf_c (cutAt a F cap) (E - F) (cap - F) body wq HBL.out (by omega) ((HRB.out.sub (T := fun q => ¬ T0 q ∧ q < W.heap.size) fun q hq h => ⟨h, hq⟩).keep HFW.out (fun q hq h => h.elim hq.1 fun h => by have := hq.2; omega)).rd (HTAB.out.keep HFW.out (fun h => h.elim t0 fun h => by omega)))
      generalize cutAt a F cap = ab at *
      obtain ⟨cb, hcb⟩ : ∃ c, cap - F = c := ⟨_, rfl⟩
      obtain ⟨nb, hnb⟩ : ∃ c, E - F = c := ⟨_, rfl⟩
      rw [hcb, hnb] at K HSU
      by_cases heq : word = wordL (sumW body)
      · have hst := HST.out (by rw [HHH.out, if_pos heq])
        obtain ⟨st1, st2, st3⟩ := hst
        have HXE : Hid (b.take E = framesL ((pre ++ [Tx.mk ar cr xx]).map Tx.b)) := Lib.hid (by rw [List.map_append]; exact st1)
        have HXL : Hid ((framesL ((pre ++ [Tx.mk ar cr xx]).map Tx.b)).length = E) := Lib.hid (by rw [← HXE.out, List.length_take, HL.out]; omega)
        have hpre : pre.length ≤ b.length := by
          have q1 := framesL_count (pre.map Tx.b)
          rw [← HTK.out, List.length_take, List.length_map] at q1
          omega
        have HYX : Hid (∀ w3, Fr No wq w3 → YieldAt Fence.wide (n - 1) Tryd.prog y #[.int .i64 (E : Int), .slice ar nn cr] w3 fun e W' => e = .returned (.bool true) ∧ J Br (pre ++ [Tx.mk ar cr xx]) W' ∧ Fr (fun k => T0 k ∨ Br < k) w3 W') := Lib.hid fun w3 f3 => by
          have q := HY.out Br pre (Tx.mk ar cr xx) w3 (HJ.out _ _ _ _ HJR.out hBr (HFQ.out.then_ f3 fun _ _ h => h.elim)) hBr (Nat.lt_of_lt_of_le HRR3.out.lt f3.size) hpre (HIN3.out.keep f3 (fun _ _ h => h))
          rw [HXL.out, show (Tx.mk ar cr xx).b.length = nn from HG2.out] at q
          exact q
        have HFLAT := Lib.hid (fun (w3 W' : World) (f3 : Fr No wq w3) (f4 : Fr (fun k => T0 k ∨ Br < k) w3 W') => (HFW.out.then_ f3 fun _ _ h => h.elim).then_ f4 fun q hq h => h.elim .inl fun h => .inr (by omega))
        have HRRN := Lib.hid (fun (w3 W' : World) (f3 : Fr No wq w3) (f4 : Fr (fun k => T0 k ∨ Br < k) w3 W') => (HRR3.out.keep f3 (fun h => h) (fun _ _ h => h)).keep f4 (fun h => h.elim (fun h => by have := HT.out _ h; omega) fun h => Nat.lt_irrefl _ h) (fun q hq h => h.elim (fun h => by have := HT.out _ h; have := hq.1; omega) fun h => by have := hq.2; omega))
        have hbeq : (word == wordL (sumW body)) = true := by rw [heq]; exact beq_self_eq_true _
        have HBE := Lib.hid hbeq
        clear hbeq heq HHH HST st1 st3 hpre
        gi_wp2_with (first
          | (refine ⟨trivial, ?_⟩; gi_at_call 34; refine (callsIn_wide.2 HSU.out).mono ?_; rintro e w3 ⟨va, rfl, hrow, hfr⟩
             obtain ⟨aa, ac, rfl, a1, a2, ain⟩ := hrow.form
             rw [wordL_length]
             have HEQ := Lib.hid (equal_c aw aa 4 cw 4 ac word (wordL (sumW body)) w3 HWL.out (wordL_length _) (HWI3.out.keep hfr (fun _ _ h => h)).rd ain.rd)
             have HF3 := Lib.hid hfr
             rw [HBE.out] at HEQ
             obtain ⟨fn, tmps, assign, bd, hy, hR⟩ := HYX.out w3 hfr
             clear hrow hfr ain a1 a2)
          | (refine ⟨trivial, ?_⟩; gi_at_call 65; refine (callsIn_wide.2 HEQ.out).mono ?_; rintro e w4 ⟨rfl, rfl⟩))
        refine hR.mono ?_
        rintro e W3 ⟨rfl, hJ3, hk3⟩
        have HFL := Lib.hid (HFLAT.out _ _ HF3.out hk3)
        have HRL := Lib.hid (HRRN.out _ _ HF3.out hk3)
        have HJ3 := Lib.hid hJ3
        clear hJ3 hk3 hR hy
        gi_wp2
        go_roundw
        case rel => exact ⟨pre ++ [Tx.mk ar cr xx], E, hel, HRL.out, HJ3.out, HXE.out, HFL.out⟩
        case measure =>
          rw [leftR_is HRL.out, HLEFT.out]
          show (b.drop E).length < _
          rw [List.length_drop, HL.out]
          omega
      · have HNO := Lib.hid (HEND.out pre k HTK.out (by rw [HHH.out, if_neg heq]))
        have hbeq : (word == wordL (sumW body)) = false := by rw [beq_eq_false_iff_ne]; exact heq
        have HBE := Lib.hid hbeq
        clear hbeq heq HHH HST
        gi_wp2_with (first
          | (refine ⟨trivial, ?_⟩; gi_at_call 34; refine (callsIn_wide.2 HSU.out).mono ?_; rintro e w3 ⟨va, rfl, hrow, hfr⟩
             obtain ⟨aa, ac, rfl, a1, a2, ain⟩ := hrow.form
             rw [wordL_length]
             have HEQ := Lib.hid (equal_c aw aa 4 cw 4 ac word (wordL (sumW body)) w3 HWL.out (wordL_length _) (HWI3.out.keep hfr (fun _ _ h => h)).rd ain.rd)
             have HF3 := Lib.hid hfr
             rw [HBE.out] at HEQ
             clear hrow hfr ain a1 a2)
          | (refine ⟨trivial, ?_⟩; gi_at_call 65; refine (callsIn_wide.2 HEQ.out).mono ?_; rintro e w4 ⟨rfl, rfl⟩))
        refine ⟨fun f h => absurd h (by simp), ?_⟩
        gi_wp2
        refine bodyPost_ret (results_none rfl _ _ _) rfl ?_
        exact ⟨⟨_, rfl⟩, Br, pre, hBr, HNO.out, HJ.out _ _ _ _ HJR.out hBr (HFQ.out.then_ HF3.out fun _ _ h => h.elim)⟩
end Go.Proofs.YtcekgalppbfnhaaDoor
