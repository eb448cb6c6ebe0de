/-
  Texts of layer 14 and of what it stands on, one behind the other.
-/
import Derived.RangeFuncNested
import Derived.RangeFuncBound
import Derived.RangeFuncCalls
import Derived.RangeFuncLeaves
import Derived.Shelf.Abstract
import Derived.Shelf.RegionOpen
import Derived.WalkKit
import Derived.OwnWalkIn
import Derived.TacticsInMore
import Derived.LoopNIn
import Derived.LoopIn
import Derived.Test.YtihahckjcedceaaDoorMg23

/- Layer 9: the iterator over the frames of bytes; a loop over it; Scan. -/
namespace Go.Proofs.YtihahckjcedceaaDoor
set_option linter.unusedVariables false
open Go.RowKit Go.Shelf
attribute [local go_sem] Oper.semAt_some

theorem round_ok {r word l1 rec l2 : List UInt8} {b1 : Bool} (h1 : takeS 0 4 (r, false) = (word, (l1, b1))) (h2 : textS (l1, b1) = (rec, (l2, false))) :
    ∃ n s, dec 9 0 (r.drop 4) = some (n, s) ∧ n ≤ r.length - (4 + s) ∧ 4 ≤ r.length ∧ word = r.take 4 ∧ l1 = r.drop 4 ∧ rec = (r.drop (4 + s)).take n ∧ l2 = r.drop (4 + s + n) := by
  unfold takeS at h1
  split at h1
  · simp only [Prod.mk.injEq] at h1
    obtain ⟨_, _, rfl⟩ := h1
    rw [textS_bad] at h2
    simp at h2
  · rename_i hc
    simp only [Prod.mk.injEq, List.drop_zero, Nat.zero_add] at h1
    obtain ⟨rfl, rfl, rfl⟩ := h1
    have h4 : 4 ≤ r.length := by
      simp at hc
      omega
    unfold textS at h2
    simp only at h2
    split at h2
    · simp at h2
    · rename_i n s hd
      unfold takeS at h2
      split at h2
      · simp at h2
      · rename_i hc2
        simp only [Prod.mk.injEq, Int.toNat_natCast] at h2
        obtain ⟨rfl, rfl, _⟩ := h2
        have hd := hd
        obtain ⟨s1, s2, s3, s4⟩ := dec_lt9 _ _ _ hd
        simp only [Bool.false_eq_true, false_or, not_or, List.length_drop] at hc2
        rw [List.length_drop] at s2
        refine ⟨n, s, hd, ?_, h4, rfl, rfl, ?_, ?_⟩
        · have := hc2.2
          omega
        · rw [List.drop_drop]
          rfl
        · rw [List.drop_drop, ← Nat.add_assoc]
          rfl
theorem if_pos' {α : Type} {p q : Prop} [Decidable p] [Decidable q] [Decidable (p ∧ q)] {a b : α} (h : p) : (if p ∧ q then a else b) = if q then a else b := by
  by_cases hq : q
  · rw [if_pos ⟨h, hq⟩, if_pos hq]
  · rw [if_neg (fun hh => hq hh.2), if_neg hq]
theorem round_bad {r word l1 rec l2 : List UInt8} {b1 : Bool} (h1 : takeS 0 4 (r, false) = (word, (l1, b1))) (h2 : textS (l1, b1) = (rec, (l2, true))) : headF r = none := by
  unfold takeS at h1
  split at h1
  · rename_i hc
    refine headF_short ?_
    simp at hc
    omega
  · rename_i hc
    simp only [Prod.mk.injEq, List.drop_zero, Nat.zero_add] at h1
    obtain ⟨rfl, rfl, rfl⟩ := h1
    unfold textS at h2
    simp only at h2
    split at h2
    · rename_i hd
      exact headF_none hd
    · rename_i n s hd
      unfold takeS at h2
      split at h2
      · rename_i hc2
        have hd := hd
        obtain ⟨s1, s2, s3, s4⟩ := dec_lt9 _ _ _ hd
        simp only [Bool.false_eq_true, false_or, List.length_drop] at hc2
        rw [List.length_drop] at s2
        have hd : dec 9 0 (r.drop 4) = some (n, s) := hd
        rw [headF_some hd, if_neg]
        rintro ⟨h, _⟩
        rcases hc2 with hc2 | hc2 <;> omega
      · simp at h2
theorem takeS_rest (ah : Nat) (n : Int) (st : St) : (takeS ah n st).2.1.length ≤ st.1.length := by
  unfold takeS
  split
  · exact Nat.le_refl _
  · show (st.1.drop _).length ≤ _
    rw [List.length_drop]
    omega
theorem Rr.sub {w : World} {B : Nat} {S T : Nat → Prop} {st : St} (h : Rr w B S st) (hs : ∀ k, S k → T k) (hT : ¬ T B) : Rr w B T st := by
  obtain ⟨a, cap, h1, h2, h3, h4, h5⟩ := h
  exact ⟨a, cap, h1, h2, h3, h4.sub fun k _ hk => hs k hk, hT⟩
theorem rleft_q {w : World} {B : Nat} {S : Nat → Prop} {st : St} (hr : Rr w B S st) (n : Nat) :
    Calls Tryd.prog 84 #[.pointer (some ⟨B, 0, none⟩)] (w.drewN n) fun e w' => e = .returned (.int .i64 (st.1.length : Int)) ∧ ∃ m, w' = w.drewN m :=
  Calls.quiet_of_same ((rleft_c _ B S st (hr.keep ((Fr.refl No w).drewN n) (fun h => h) (fun _ _ h => h))).mono fun _ _ h => ⟨h.1, h.2.symm⟩)
/-- What a reader has left, read off the memory. -/
def leftR (w : World) (p : Value) : Nat := match p with
  | .pointer (some a) => match w.cell? a with
    | some (.slice _ n _) => n
    | _ => 0
  | _ => 0
theorem leftR_is {w : World} {B : Nat} {S : Nat → Prop} {st : St} (h : Rr w B S st) : leftR w (.pointer (some ⟨B, 0, none⟩)) = st.1.length := by
  obtain ⟨a, cap, h1, _⟩ := h
  unfold leftR
  simp only
  rw [h1.cell 0]
  rfl
/-- A record that is read, within S, and may be cut. -/
structure InC (w : World) (S : Nat → Prop) (x : Tx) : Prop where
  inn : In w S x.a x.b
  le : x.b.length ≤ x.c
  mx : x.c ≤ maxLen
theorem InC.keep {w w' : World} {S T : Nat → Prop} {x : Tx} (h : InC w S x) (f : Fr T w w') (hn : ∀ k, S k → ¬ T k) : InC w' S x := ⟨h.inn.keep f hn, h.le, h.mx⟩
theorem InC.sub {w : World} {S T : Nat → Prop} {x : Tx} (h : InC w S x) (hs : ∀ k, k < w.heap.size → S k → T k) : InC w T x := ⟨h.inn.sub hs, h.le, h.mx⟩
set_option maxRecDepth 100000 in
set_option maxHeartbeats 2000000 in
theorem frames_in (n : Nat) (hn : 1 ≤ n) (y X : Nat) (a : Option Addr) (cap : Nat) (b : List UInt8) (hb : b.length ≤ 100000) (hbc : b.length ≤ cap) (T0 : Nat → Prop) (J : Nat → List Tx → World → Prop) (W : World)
    (hY : ∀ (Br : Nat) (pre : List Tx) (x : Tx) (W1 : World), J Br pre W1 → W.heap.size ≤ Br → Br < W1.heap.size → pre.length ≤ b.length → InC W1 (fun k => W.heap.size ≤ k ∧ k < Br) x →
      YieldAt Fence.wide (n - 1) Tryd.prog y #[.int .i64 ((framesL ((pre ++ [x]).map Tx.b)).length : Int), .slice x.a x.b.length x.c] W1 fun e W' => e = .returned (.bool true) ∧ J Br (pre ++ [x]) W' ∧ Fr (fun k => T0 k ∨ Br < k) W1 W')
    (hJ : ∀ (Br : Nat) (pre : List Tx) (W1 W' : World), J Br pre W1 → W.heap.size ≤ Br → Fr (One Br) W1 W' → J Br pre W')
    (c0 : W.cell? ⟨X, 0, none⟩ = some (.slice a b.length cap)) (x0 : ¬ T0 X) (hr : In W (fun k => ¬ T0 k) a b) (ht : Tab W) (t0 : ¬ T0 0) (hT : ∀ k, T0 k → k < W.heap.size)
    (h0 : ∀ Br, W.heap.size ≤ Br → J Br [] W) :
    CallsIn Fence.wide n Tryd.prog 82 #[.func (.yield y) #[] #[], .pointer (some ⟨X, 0, none⟩)] W fun e W' => (∃ v, e = .returned v) ∧ ∃ Br xs, W.heap.size ≤ Br ∧ xs.map Tx.b = scanL b ∧ J Br xs W' := by
  have HY := Lib.hid hY
  have HJ := Lib.hid hJ
  have HR := Lib.hid hr
  have HTAB := Lib.hid ht
  have HT := Lib.hid hT
  have H0 := Lib.hid h0
  have HX0 := Lib.hid x0
  have hX := cell_block c0
  simp only at hX
  have hG := cell_block (ht 0 (by omega))
  simp only at hG
  have HNR := Lib.hid (newr_c a b.length cap b W rfl (by omega) hr.rd)
  have HEND := Lib.hid (fun (xs : List Tx) (k : Nat) (h1 : b.take k = framesL (xs.map Tx.b)) (h2 : headF (b.drop k) = none) => (scanL_eq (by omega) (scn_end h1 h2)).symm)
  have HSTEP := Lib.hid (fun (pre : List (List UInt8)) (x : List UInt8) (t k : Nat) (h : b.take k = framesL pre) (hk : k ≤ b.length) (hh : headF (b.drop k) = some (x, t)) => scn_step h hk hh)
  obtain ⟨len, hlen⟩ : ∃ n, b.length = n := ⟨_, rfl⟩
  have HL := Lib.hid hlen
  rw [hlen] at c0 hb hbc HNR
  have HCUT := Lib.hid (fun (lo hi : Nat) (h1 : lo ≤ hi) (h2 : hi ≤ cap) (w : World) => cut_both (P := Tryd.prog) Tryd.underlying51 sizeU8 a len cap lo hi h1 h2 w)
  clear hY hJ hr ht hT h0 x0 hlen
  refine callsIn_of_wp Tryd.func82 rfl trivial ?_ rfl
  simp only [Tryd.ntmps82, List.size_toArray, List.length_cons, List.length_nil, Nat.reduceAdd, Nat.reduceSub, Array.replicate_succ, Array.replicate_zero, List.push_toArray, List.append_toArray, List.nil_append, List.cons_append]
  refine wpIn_wide.2 ?_
  go_wp2_with fail
  refine (show Calls _ _ _ _ _ from HNR.out).mono ?_
  rintro e W1 ⟨Br, S, rfl, rr, f1, hBr, hS⟩
  have HRR := Lib.hid (rr.sub (T := fun k => W.heap.size ≤ k ∧ k < Br) hS (fun h => Nat.lt_irrefl _ h.2))
  have HF1 := Lib.hid f1
  clear rr f1 hS HNR
  go_wp2_with fail
  refine (wpIn_wide (n := n)).1 ?_
  gi_loopw [] (fun wr => ∃ (pre : List Tx) (k : Nat), k ≤ len ∧ Rr wr Br (fun k => W.heap.size ≤ k ∧ k < Br) (b.drop k, false) ∧ J Br pre wr ∧ b.take k = framesL (pre.map Tx.b) ∧ Fr (fun q => T0 q ∨ W.heap.size ≤ q) W wr) (fun wr => leftR wr (.pointer (some ⟨Br, 0, none⟩)))
  case atStart =>
    exact ⟨[], 0, Nat.zero_le _, HRR.out, HJ.out _ _ _ _ (H0.out Br hBr) hBr (HF1.out.sub fun _ _ h => h.elim), rfl, HF1.out.sub fun _ _ h => h.elim⟩
  case round =>
    obtain ⟨pre, k, hk, hrr, hj, htk, hfr⟩ := hrel
    have hrlen := leftR_is hrr
    simp only at hrlen
    have hlr : (b.drop k).length = len - k := by rw [List.length_drop, HL.out]
    rw [hlr] at hrlen
    have HLEFT := Lib.hid hrlen
    have HC1 := Lib.hid (rraw_c 4 wr Br (fun k => W.heap.size ≤ k ∧ k < Br) (b.drop k, false) hrr (by omega))
    have c0r := hfr.cell (p := ⟨X, 0, none⟩) c0 (fun h => h.elim HX0.out fun h => by simp only at h; omega)
    obtain ⟨word, l1, b1, h1⟩ : ∃ word l1 b1, takeS 0 4 (b.drop k, false) = (word, (l1, b1)) := ⟨_, _, _, rfl⟩
    obtain ⟨rec, l2, b2, h2⟩ : ∃ rec l2 b2, textS (l1, b1) = (rec, (l2, b2)) := ⟨_, _, _, rfl⟩
    rw [h1] at HC1
    have hl1 : l1.length ≤ (b.drop k).length := by
      have := takeS_rest 0 4 (b.drop k, false)
      rw [h1] at this
      exact this
    rw [hlr] at hl1
    obtain ⟨n1, hn1⟩ : ∃ n, l1.length = n := ⟨_, rfl⟩
    rw [hn1] at hl1
    have HFR := Lib.hid hfr
    have HJR := Lib.hid hj
    have HTK := Lib.hid htk
    have HN1 := Lib.hid hn1
    clear hrr hj htk hfr hrlen hn1
    cases b2 with
    | true =>
      have HBAD := Lib.hid (round_bad h1 h2)
      have H2 := Lib.hid h2
      clear h1 h2
      refine wpIn_wide.2 ?_
      go_wp2_with fail
      refine (show Calls _ _ _ _ _ from HC1.out).mono ?_
      rintro e w1 ⟨aw, cw, rfl, hin, rr, f1⟩
      have c0w := f1.cell (p := ⟨X, 0, none⟩) c0r (fun h => by have h : X = Br := h; omega)
      have HC2 := Lib.hid (fun m => rleft_q rr m)
      rw [show (l1, b1).1.length = n1 from HN1.out] at HC2
      have HC3 := Lib.hid (fun m => rtext_c (w1.drewN m) Br _ _ (rr.keep ((Fr.refl No w1).drewN m) (fun h => h) (fun _ _ h => h)))
      rw [H2.out] at HC3
      have HF1 := Lib.hid f1
      clear rr hin f1 HC1
      generalize word.length = wn at *
      go_wp2_with fail
      go_quiet (exact HC2.out _)
      go_wp2_with fail
      refine (show Calls _ _ _ _ _ from HC3.out _).mono ?_
      rintro e w2 ⟨ar, cr, rfl, hin, rr, f2⟩
      have HC4 := Lib.hid (rbad_c w2 Br _ _ rr)
      have HF2 := Lib.hid f2
      clear rr hin f2 HC2 HC3
      generalize rec.length = rn at *
      go_wp2_with fail
      refine (show Calls _ _ _ _ _ from HC4.out).mono ?_
      rintro e w3 ⟨rfl, rfl⟩
      go_wp2_with fail
      refine bodyPost_ret (results_none rfl _ _ _) rfl ?_
      refine ⟨⟨_, rfl⟩, Br, pre, hBr, HEND.out _ _ HTK.out HBAD.out, HJ.out _ _ _ _ HJR.out hBr ((HF1.out.drewN _).trans HF2.out)⟩
    | false =>
      obtain ⟨nn, ss, hd, hnn, h4, rfl, rfl, rfl, rfl⟩ := round_ok h1 h2
      have H2 := Lib.hid h2
      obtain ⟨g1, g2, g3, g4⟩ := body_parts hd hnn
      have hh := headF_some hd
      rw [hlr] at hnn h4 g1
      rw [hlr, if_pos' hnn] at hh
      obtain ⟨xx, hx⟩ : ∃ x, ((b.drop k).drop (4 + ss)).take nn = x := ⟨_, rfl⟩
      obtain ⟨E, hE⟩ : ∃ E, k + (4 + ss + nn) = E := ⟨_, rfl⟩
      obtain ⟨F, hF⟩ : ∃ F, k + 4 = F := ⟨_, rfl⟩
      have hel : E ≤ len := by omega
      have hFE : F ≤ E := by omega
      have hn1 : n1 = len - F := by
        rw [← HN1.out, List.length_drop, hlr]
        omega
      subst hn1
      rw [hx] at hh g2
      have e2 : (b.drop k).drop (4 + ss + nn) = b.drop E := by rw [List.drop_drop, hE]
      rw [e2, hx] at H2
      have hl2 : (b.drop E).length = len - E := by rw [List.length_drop, HL.out]
      obtain ⟨body, hbody⟩ : ∃ l, ((b.drop k).drop 4).take (ss + nn) = l := ⟨_, rfl⟩
      have hbl : body.length = E - F := by
        rw [← hbody, List.length_take, List.length_drop, hlr]
        omega
      obtain ⟨word, hword⟩ : ∃ l, (b.drop k).take 4 = l := ⟨_, rfl⟩
      have hwl : word.length = 4 := by
        rw [← hword, List.length_take, hlr]
        omega
      rw [hbody, hword] at hh
      rw [hword] at HC1
      have e1 : (b.drop k).drop 4 = b.drop F := by rw [List.drop_drop, hF]
      have hrdb : Rd W (cutAt a F cap) body := by
        rw [← hbody, e1]
        exact (HR.out.rd.drop F cap (by rw [HL.out]; omega)).take _
      have K := HCUT.out F E hFE (by omega)
      have HST := Lib.hid (fun h => HSTEP.out (pre.map Tx.b) xx (4 + ss + nn) k HTK.out (by rw [HL.out]; exact hk) h)
      rw [hE] at HST
      have HHH := Lib.hid hh
      have HX := Lib.hid hx
      have HRB : Hid (In W (fun k => ¬ T0 k) (cutAt a F cap) body) := Lib.hid (by
        rw [← hbody, e1]
        exact (HR.out.drop F cap (by rw [HL.out]; omega)).take _)
      have HWL := Lib.hid hwl
      have HBL := Lib.hid hbl
      have HG2 := Lib.hid g2
      have hFw : (len : Int) - ((len - F : Nat) : Int) = (F : Int) := by omega
      have hEw : (len : Int) - ((len - E : Nat) : Int) = (E : Int) := by omega
      clear h1 h2 hd hrdb hh hx hbody hword e1 e2 g3 g4 hnn hwl hbl g2
      refine wpIn_wide.2 ?_
      go_wp2_with fail
      refine (show Calls _ _ _ _ _ from HC1.out).mono ?_
      rintro e w1 ⟨aw, cw, rfl, hin, rr, f1⟩
      rw [HWL.out]
      have c0w := f1.cell (p := ⟨X, 0, none⟩) c0r (fun h => by have h : X = Br := h; omega)
      have HC2 := Lib.hid (fun m => rleft_q rr m)
      rw [HN1.out] at HC2
      have HC3 := Lib.hid (fun m => rtextC_c (w1.drewN m) Br _ _ (rr.keep ((Fr.refl No w1).drewN m) (fun h => h) (fun _ _ h => h)))
      rw [H2.out] at HC3
      have HF1 := Lib.hid f1
      have HWI := Lib.hid (fun m => hin.keep ((Fr.refl No w1).drewN m) (fun _ _ h => h))
      clear rr hin f1 HC1
      go_wp2_with fail
      go_quiet (exact HC2.out _)
      go_wp2_with fail
      refine (show Calls _ _ _ _ _ from HC3.out _).mono ?_
      rintro e w2 ⟨ar, cr, rfl, hin, rr, f2, hcq1, hcq2⟩
      have HCQ := Lib.hid (And.intro hcq1 hcq2)
      clear hcq1 hcq2
      rw [HG2.out]
      have hcr := hin
      have c0v := (f2.cell (p := ⟨X, 0, none⟩) (((Fr.refl No w1).drewN _).cell c0w (fun h => h)) (fun h => by have h : X = Br := h; omega))
      have HC4 := Lib.hid (rbad_c w2 Br _ _ rr)
      have HC5 := Lib.hid (fun m => rleft_q rr m)
      rw [show (b.drop E, false).1.length = len - E by rw [List.length_drop, HL.out]] at HC5
      have HRR2 := Lib.hid rr
      have HIN2 := Lib.hid hin
      have HWI2 := Lib.hid ((HWI.out _).keep f2 (fun q hq h => by have h : q = Br := h; have := hq.2; omega))
      have HF2 := Lib.hid ((HF1.out.drewN _).trans f2)
      clear rr hin f2 hcr HC2 HC3 HWI HF1
      go_wp2_with fail
      refine (show Calls _ _ _ _ _ from HC4.out).mono ?_
      rintro e w3 ⟨rfl, rfl⟩
      go_wp2_with fail
      go_quiet (exact HC5.out _)
      rename_i hK
      refine hK _ _ ((wpIn_wide (n := n)).1 ?_)
      clear hK
      have HFQ := Lib.hid (HF2.out.drewN nq)
      have HIN3 := Lib.hid (HIN2.out.keep ((Fr.refl No w2).drewN nq) (fun _ _ h => h))
      have HWI3 := Lib.hid (HWI2.out.keep ((Fr.refl No w2).drewN nq) (fun _ _ h => h))
      have HRR3 := Lib.hid (HRR2.out.keep ((Fr.refl No w2).drewN nq) (fun h => h) (fun _ _ h => h))
      have c0q := ((Fr.refl No w2).drewN nq).cell c0v (fun h => h)
      clear HF2 HIN2 HWI2 HRR2 c0v c0w HC4 HC5
      obtain ⟨wq, hwq⟩ : ∃ x, w2.drewN nq = x := ⟨_, rfl⟩
      rw [hwq] at HFQ HIN3 HWI3 HRR3 c0q ⊢
      clear hwq
      have HFW : Hid (Fr (fun q => T0 q ∨ W.heap.size ≤ q) W wq) := Lib.hid (HFR.out.then_ HFQ.out fun q hq h => by have h : q = Br := h; exact .inr (by omega))
      have HSU := Lib.hid (sumOf_c (cutAt a F cap) (E - F) (cap - F) body wq HBL.out (by omega) ((HRB.out.sub (T := fun q => ¬ T0 q ∧ q < W.heap.size) fun q hq h => ⟨h, hq⟩).keep HFW.out (fun q hq h => h.elim hq.1 fun h => by have := hq.2; omega)).rd (HTAB.out.keep HFW.out (fun h => h.elim t0 fun h => by omega)))
      generalize cutAt a F cap = ab at *
      obtain ⟨cb, hcb⟩ : ∃ c, cap - F = c := ⟨_, rfl⟩
      obtain ⟨nb, hnb⟩ : ∃ c, E - F = c := ⟨_, rfl⟩
      rw [hcb, hnb] at K HSU
      by_cases heq : word = wordL (sumW body)
      · have hst := HST.out (by rw [HHH.out, if_pos heq])
        obtain ⟨st1, st2, st3⟩ := hst
        have HXE : Hid (b.take E = framesL ((pre ++ [Tx.mk ar cr xx]).map Tx.b)) := Lib.hid (by rw [List.map_append]; exact st1)
        have HXL : Hid ((framesL ((pre ++ [Tx.mk ar cr xx]).map Tx.b)).length = E) := Lib.hid (by rw [← HXE.out, List.length_take, HL.out]; omega)
        have hpre : pre.length ≤ b.length := by
          have q1 := framesL_count (pre.map Tx.b)
          rw [← HTK.out, List.length_take, List.length_map] at q1
          omega
        have HYX : Hid (∀ w3, Fr No wq w3 → YieldAt Fence.wide (n - 1) Tryd.prog y #[.int .i64 (E : Int), .slice ar nn cr] w3 fun e W' => e = .returned (.bool true) ∧ J Br (pre ++ [Tx.mk ar cr xx]) W' ∧ Fr (fun k => T0 k ∨ Br < k) w3 W') := Lib.hid fun w3 f3 => by
          have q := HY.out Br pre (Tx.mk ar cr xx) w3 (HJ.out _ _ _ _ HJR.out hBr (HFQ.out.then_ f3 fun _ _ h => h.elim)) hBr (Nat.lt_of_lt_of_le HRR3.out.lt f3.size) hpre ⟨HIN3.out.keep f3 (fun _ _ h => h), HCQ.out.1, HCQ.out.2⟩
          rw [HXL.out, show (Tx.mk ar cr xx).b.length = nn from HG2.out] at q
          exact q
        have HFLAT := Lib.hid (fun (w3 W' : World) (f3 : Fr No wq w3) (f4 : Fr (fun k => T0 k ∨ Br < k) w3 W') => (HFW.out.then_ f3 fun _ _ h => h.elim).then_ f4 fun q hq h => h.elim .inl fun h => .inr (by omega))
        have HRRN := Lib.hid (fun (w3 W' : World) (f3 : Fr No wq w3) (f4 : Fr (fun k => T0 k ∨ Br < k) w3 W') => (HRR3.out.keep f3 (fun h => h) (fun _ _ h => h)).keep f4 (fun h => h.elim (fun h => by have := HT.out _ h; omega) fun h => Nat.lt_irrefl _ h) (fun q hq h => h.elim (fun h => by have := HT.out _ h; have := hq.1; omega) fun h => by have := hq.2; omega))
        have hbeq : (word == wordL (sumW body)) = true := by rw [heq]; exact beq_self_eq_true _
        have HBE := Lib.hid hbeq
        clear hbeq heq HHH HST st1 st3 hpre
        gi_wp2_with (first
          | (refine ⟨trivial, ?_⟩; gi_at_call 78; refine (callsIn_wide.2 HSU.out).mono ?_; rintro e w3 ⟨va, rfl, hrow, hfr⟩
             obtain ⟨aa, ac, rfl, a1, a2, ain⟩ := hrow.form
             rw [wordL_length]
             have HEQ := Lib.hid (equal_c aw aa 4 cw 4 ac word (wordL (sumW body)) w3 HWL.out (wordL_length _) (HWI3.out.keep hfr (fun _ _ h => h)).rd ain.rd)
             have HF3 := Lib.hid hfr
             rw [HBE.out] at HEQ
             obtain ⟨fn, tmps, assign, bd, hy, hR⟩ := HYX.out w3 hfr
             clear hrow hfr ain a1 a2)
          | (refine ⟨trivial, ?_⟩; gi_at_call 86; refine (callsIn_wide.2 HEQ.out).mono ?_; rintro e w4 ⟨rfl, rfl⟩))
        refine hR.mono ?_
        rintro e W3 ⟨rfl, hJ3, hk3⟩
        have HFL := Lib.hid (HFLAT.out _ _ HF3.out hk3)
        have HRL := Lib.hid (HRRN.out _ _ HF3.out hk3)
        have HJ3 := Lib.hid hJ3
        clear hJ3 hk3 hR hy
        gi_wp2
        go_roundw
        case rel => exact ⟨pre ++ [Tx.mk ar cr xx], E, hel, HRL.out, HJ3.out, HXE.out, HFL.out⟩
        case measure =>
          rw [leftR_is HRL.out, HLEFT.out]
          show (b.drop E).length < _
          rw [List.length_drop, HL.out]
          omega
      · have HNO := Lib.hid (HEND.out pre k HTK.out (by rw [HHH.out, if_neg heq]))
        have hbeq : (word == wordL (sumW body)) = false := by rw [beq_eq_false_iff_ne]; exact heq
        have HBE := Lib.hid hbeq
        clear hbeq heq HHH HST
        gi_wp2_with (first
          | (refine ⟨trivial, ?_⟩; gi_at_call 78; refine (callsIn_wide.2 HSU.out).mono ?_; rintro e w3 ⟨va, rfl, hrow, hfr⟩
             obtain ⟨aa, ac, rfl, a1, a2, ain⟩ := hrow.form
             rw [wordL_length]
             have HEQ := Lib.hid (equal_c aw aa 4 cw 4 ac word (wordL (sumW body)) w3 HWL.out (wordL_length _) (HWI3.out.keep hfr (fun _ _ h => h)).rd ain.rd)
             have HF3 := Lib.hid hfr
             rw [HBE.out] at HEQ
             clear hrow hfr ain a1 a2)
          | (refine ⟨trivial, ?_⟩; gi_at_call 86; refine (callsIn_wide.2 HEQ.out).mono ?_; rintro e w4 ⟨rfl, rfl⟩))
        refine ⟨fun f h => absurd h (by simp), ?_⟩
        gi_wp2
        refine bodyPost_ret (results_none rfl _ _ _) rfl ?_
        exact ⟨⟨_, rfl⟩, Br, pre, hBr, HNO.out, HJ.out _ _ _ _ HJR.out hBr (HFQ.out.then_ HF3.out fun _ _ h => h.elim)⟩
end Go.Proofs.YtihahckjcedceaaDoor

namespace Go.Proofs.YtihahckjcedceaaDoor
set_option linter.unusedVariables false
open Go.RowKit Go.Shelf
attribute [local go_sem] Oper.semAt_some

abbrev seqF (X : Nat) : Value := .func (.func 82) #[] #[.pointer (some ⟨X, 0, none⟩)]
set_option maxHeartbeats 400000 in
theorem frames_c (a : Option Addr) (len cap : Nat) (w : World) : Calls Tryd.prog 74 #[.slice a len cap] w fun e w' => e = .returned (seqF w.heap.size) ∧ w.alloc (.cells #[.slice a len cap] 51) = w' := by
  go_enter Tryd.func74, Tryd.ntmps74
  go_wp2_with fail
  go_ret
  exact ⟨rfl, rfl⟩
theorem fr_putObj {W : World} {l : Nat} (o : Obj) : Fr (fun k => k = l) W (W.putObj l o) := Fr.grown (grownBy_putObj' W l o) fun k e => (Option.some.inj e).symm
/-- A LOOP OVER THE FRAMES OF BYTES, each round of which goes on. -/
theorem each_frame {gv : Operand} {ps : Array Tmp} {assign body : Code} {Q : Exit → Act → World → Prop} {a : Act} {w : World} {X : Nat} {ad : Option Addr} {cap : Nat} {b : List UInt8} (hb : b.length ≤ 100000) (hbc : b.length ≤ cap) (T0 : Nat → Prop)
    (c0 : w.cell? ⟨X, 0, none⟩ = some (.slice ad b.length cap)) (x0 : ¬ T0 X) (hr : In w (fun k => ¬ T0 k) ad b) (ht : Tab w) (t0 : ¬ T0 0) (hT : ∀ k, T0 k → k < w.heap.size)
    (hg : a.eval gv = seqF X) (hps : ps.size = 2) (I : Nat → List Tx → World → Prop) (hI : ∀ Br, OwnFrom w.heap.size (I Br)) (hI2 : ∀ (Br : Nat) (pre : List Tx) (W1 W' : World), I Br pre W1 → w.heap.size ≤ Br → Fr (One Br) W1 W' → I Br pre W')
    (h0 : ∀ Br, w.heap.size ≤ Br → I Br [] w) (a₁ : Nat → Tx → Act)
    (hassign : ∀ (l en : Nat) (x : Tx) (W : World) (K : Act → World → Prop), K (a₁ en x) W → assign.wpIn (Fence.wide.inRound l) 3 Tryd.prog (Exit.then K (fun _ _ _ => False)) { tmps := (ps.zip #[Value.int .i64 (en : Int), .slice x.a x.b.length x.c]).foldl (fun t (p, v) => t.setIfInBounds p v) a.tmps, defers := [] } W)
    (hbody : ∀ (l Br : Nat) (pre : List Tx) (x : Tx) (W : World), I Br pre W → w.heap.size ≤ Br → Br < W.heap.size → pre.length ≤ b.length → InC W (fun k => w.heap.size ≤ k ∧ k < Br) x →
      body.wpIn (Fence.wide.inRound l) 3 Tryd.prog (Exit.then (fun _ W' => KeepsFrom w.heap.size W W' ∧ Fr (fun k => T0 k ∨ Br < k) W W' ∧ I Br (pre ++ [x]) W') (fun _ _ _ => False)) (a₁ (framesL ((pre ++ [x]).map Tx.b)).length x) W)
    (hdone : ∀ (D Br : Nat) (xs : List Tx) (W : World), w.heap.size ≤ D → w.heap.size ≤ Br → xs.map Tx.b = scanL b → I Br xs W → W.heap[D]? = some (.deferred (some [])) → Q .normal { a with defers := { target := .collected D, args := #[] } :: a.defers } W) :
    (Code.rangeFunc gv ps assign body).wpIn Fence.wide 5 Tryd.prog Q a w := by
  refine wpIn_rangeFunc fun fn hfn => ?_
  obtain ⟨D, hD⟩ : ∃ D, w.heap.size = D := ⟨_, rfl⟩
  obtain ⟨rc, hrc⟩ : ∃ rc : LoopState → Loop, rc = fun st => { state := st, pending := none, fn, tmps := a.tmps, params := ps, assign, body, defers := D } := ⟨_, rfl⟩
  obtain ⟨Wd, hWd⟩ : ∃ W, w.alloc (.deferred (some [])) = W := ⟨_, rfl⟩
  obtain ⟨W1, hW1⟩ : ∃ W, Wd.alloc (.loop (rc .ready)) = W := ⟨_, rfl⟩
  have sd : Wd.heap.size = D + 1 := by rw [← hWd, World.size_alloc, hD]
  have s1 : W1.heap.size = D + 2 := by rw [← hW1, World.size_alloc, sd]
  have hL : W1.heap[D + 1]? = some (.loop (rc .ready)) := by rw [← hW1, ← sd]; exact heap_alloc_new _ _
  have hK : W1.heap[D]? = some (.deferred (some [])) := by
    rw [← hW1, heap_alloc_old _ _ _ (by omega), ← hWd, ← hD]
    exact heap_alloc_new _ _
  have f1 : Fr No w W1 := by rw [← hW1, ← hWd]; exact ((Fr.refl No w).alloc _).alloc _
  have hI1 : ∀ Br, D ≤ Br → I Br [] W1 := fun Br hBr => by
    rw [← hW1, ← hWd]
    exact (hI Br).alloc _ ((hI Br).alloc _ (h0 Br (by omega)))
  rw [hD] at hI hI2 hT hbody hdone
  have hXlt : X < D := by rw [← hD]; exact cell_block c0
  refine ⟨D + 1, [{ target := .collected D, args := #[] }], W1, { target := .fn (.func 82) #[.pointer (some ⟨X, 0, none⟩)], args := #[.func (.yield (D + 1)) #[] #[]] }, W1, 82,
    #[.func (.yield (D + 1)) #[] #[], .pointer (some ⟨X, 0, none⟩)], W1, ?_, ?_, ?_, ?_, fun _ => by omega, ?_⟩
  · rw [← hW1, ← hWd, hrc, ← hD]
    exact run_enterLoop_outer _ _ _ _ _
  · simp only [resolve, hg]
    simp [go_sem]
  · intro f' hf'
    trivial
  · have eg : ∀ args w, (callFunc 82 args).run Tryd.prog w = .ok (.enter 82 args) w := enters_of Tryd.func82 (by kernel_rfl) rfl
    simp [invoke, go_sem, eg]
  · refine (frames_in 4 (by omega) (D + 1) X ad cap b hb hbc (fun k => T0 k ∨ k = D + 1) (fun Br pre W => I Br pre W ∧ W.heap[D + 1]? = some (.loop (rc .ready)) ∧ W.heap[D]? = some (.deferred (some []))) W1 ?_ ?_ (f1.cell c0 (fun h => h)) (fun h => h.elim x0 fun h => by omega)
      ((hr.sub (T := fun k => ¬ T0 k ∧ k < D) fun k hk h => ⟨h, by omega⟩).keep f1 (fun _ _ h => h) |>.sub fun k _ hk h => h.elim hk.1 fun h => by have := hk.2; omega) (ht.keep f1 (fun h => h)) (fun h => h.elim t0 fun h => by
        have q := cell_block (ht 0 (by omega))
        rw [hD] at q
        have q : 0 < D := q
        omega) (fun k hk => by
        rcases hk with hk | rfl
        · have := hT k hk
          omega
        · omega) (fun Br hBr => ⟨hI1 Br (by omega), hL, hK⟩)).mono ?_
    · rintro Br pre x W ⟨hi, hl, hk⟩ hBr hBrW hlen hin
      have hy := run_yield (P := Tryd.prog) (args := #[Value.int .i64 ((framesL ((pre ++ [x]).map Tx.b)).length : Int), .slice x.a x.b.length x.c]) hl (by rw [hrc]; simp [hps])
      rw [hrc] at hy
      refine ⟨fn, _, assign, body, hy, roundIn_of_wpIn hfn (hassign _ _ x W _ ?_)⟩
      clear hy
      have hbg := run_beginRound (P := Tryd.prog) hl (by rw [hrc])
      refine ⟨_, hbg, ?_⟩
      obtain ⟨Z, hZ⟩ : ∃ X, W.putObj (D + 1) (.loop { rc .ready with state := .busy }) = X := ⟨_, rfl⟩
      rw [hZ]
      have hlZ : Z.heap[D + 1]? = some (.loop (rc .busy)) := by rw [← hZ, hrc]; exact World.putObj_heap_same (Array.getElem?_eq_some_iff.1 hl).1
      have hkZ : Z.heap[D]? = some (.deferred (some [])) := by rw [← hZ]; exact (World.putObj_heap_other (by omega)).trans hk
      have hiZ : I Br pre Z := by rw [← hZ]; exact (hI Br).putObj _ hi (by omega) hl rfl
      have kZ : Fr (fun k => k = D + 1) W Z := by rw [← hZ]; exact fr_putObj _
      have inZ : InC Z (fun k => D ≤ k ∧ k < Br) x := by
        have q : InC W (fun k => D + 2 ≤ k ∧ k < Br) x := hin.sub fun k _ hk => ⟨by have := hk.1; omega, hk.2⟩
        exact (q.keep kZ fun k hk h => by have := hk.1; omega).sub fun k _ hk => ⟨by have := hk.1; omega, hk.2⟩
      refine wpIn_mono (hbody _ Br pre x Z hiZ (by omega) (Nat.lt_of_lt_of_le hBrW kZ.size) hlen inZ) ?_
      intro e a3 Y hp
      cases e with
      | normal =>
        obtain ⟨p1, p2, p3⟩ := hp
        have hlY := p1.same _ _ (by omega) hlZ rfl
        have hkY := p1.same _ _ (by omega) hkZ rfl
        have he := run_endRound (P := Tryd.prog) none hlY
        refine ⟨_, _, he, rfl, ⟨(hI Br).putObj _ p3 (by omega) hlY rfl, ?_, (World.putObj_heap_other (by omega)).trans hkY⟩, ?_⟩
        · rw [World.putObj_heap_same (Array.getElem?_eq_some_iff.1 hlY).1, hrc]
          rfl
        · exact ((kZ.sub (T := fun k => (T0 k ∨ k = D + 1) ∨ Br < k) fun k _ h => .inl (.inr h)).then_ p2 fun k _ h => h.elim (fun h => .inl (.inl h)) .inr).then_ (fr_putObj _) fun k _ h => .inl (.inr h)
      | ret => exact hp.elim
      | exit id => exact hp.elim
      | goto t => exact hp.elim
      | panic ch => exact hp.elim
      | outgrown => exact hp.elim
    · rintro Br pre Wa Wb ⟨hi, hl, hk⟩ hBr f
      have n1 : ¬ One Br (D + 1) := fun h => by have h : D + 1 = Br := h; omega
      have n0 : ¬ One Br D := fun h => by have h : D = Br := h; omega
      exact ⟨hI2 Br pre Wa Wb hi (by omega) f, (f.block _ (Array.getElem?_eq_some_iff.1 hl).1 n1).trans hl, (f.block _ (Array.getElem?_eq_some_iff.1 hk).1 n0).trans hk⟩
    · rintro e W2 ⟨⟨v, rfl⟩, Br, xs, hBr, hxs, hi, hl, hk⟩
      have he := run_endLoop (P := Tryd.prog) hl (by rw [hrc]; simp)
      rw [hrc] at he
      exact ⟨none, _, he, hdone D Br xs _ (by omega) (by omega) hxs ((hI Br).putObj _ hi (by omega) hl rfl) ((World.putObj_heap_other (by omega)).trans hk)⟩
end Go.Proofs.YtihahckjcedceaaDoor

namespace Go.Proofs.YtihahckjcedceaaDoor
set_option linter.unusedVariables false
open Go.RowKit Go.Shelf
attribute [local go_sem] Oper.semAt_some

theorem results_sl {P : Program} {fn : Func} {p u : Tmp} {t1 t2 e1 : TypeId} (h : fn.results = #[.cell p t1, .cell u t2]) (u1 : P.underlying t1 = some (.slice e1)) (u2 : P.underlying t2 = some (.int .i64)) (tmps : Array Value) (w : World) (a1 a2 : Addr) (v1 v2 : Value)
    (hp : tmps.getD p undef = .pointer (some a1)) (hu : tmps.getD u undef = .pointer (some a2)) (c1 : w.cell? a1 = some v1) (c2 : w.cell? a2 = some v2) : (results fn tmps).run P w = .ok (.tuple #[v1, v2]) w := by
  have hp' : tmps[p]?.getD undef = .pointer (some a1) := by simpa using hp
  have hu' : tmps[u]?.getD undef = .pointer (some a2) := by simpa using hu
  simp [results, h, hp', hu', asAddr, loadVar, isAgg, run_underlying u1, run_underlying u2, c1, c2, Result.andThen, go_sem]
theorem own_rowG {W W' : World} {S : Nat → Prop} {row : Option Nat} {B k : Nat} {e : TypeId} {v : Value} {n : Nat} {cs : List Value} (h : RowG W S e k v n cs) (hg : W.grownBy W' row) (hr : Turns B W row) : RowG W' S e k v n cs := by
  obtain ⟨⟨h1, h2⟩, h3⟩ := h
  refine ⟨⟨h1, ?_⟩, h3⟩
  rcases h2 with h2 | ⟨g, cap, cur, rfl, hb, hgc, rest⟩
  · exact .inl h2
  · exact .inr ⟨g, cap, cur, rfl, hb, (hg.block g (Array.getElem?_eq_some_iff.1 hgc).1 (hr.cells hgc)).trans hgc, rest⟩
theorem own_in {W W' : World} {S : Nat → Prop} {row : Option Nat} {B : Nat} {a : Option Addr} {l : List UInt8} (h : In W S a l) (hg : W.grownBy W' row) (hr : Turns B W row) : In W' S a l := fun hl => by
  obtain ⟨b, o, ha, hb, hc⟩ := h hl
  refine ⟨b, o, ha, hb, fun i hi => ?_⟩
  exact cell_kept (hc i hi) hg fun r e => (hr r e).2
theorem RowG.others {W W' : World} {S : Nat → Prop} {e : TypeId} {k : Nat} {v : Value} {n : Nat} {cs : List Value} (h : RowG W S e k v n cs) (f : Fr (Own1 v) W W') : KeepsOthers W W' := by
  refine ⟨f.size, fun k o hk ho => ?_⟩
  have hlt : k < W.heap.size := (Array.getElem?_eq_some_iff.1 hk).1
  refine (f.block k hlt fun hv => ?_).trans hk
  rcases h.1.2 with ⟨rfl, _⟩ | ⟨g, cap, cur, rfl, _, hg, _⟩
  · have hv : (none : Option Nat) = some k := hv
    cases hv
  · have hv : some g = some k := hv
    cases hv
    rw [hg] at hk
    cases hk
    simp [Obj.isCells] at ho
/-- What the rounds of a Scan keep: its two variables, the list, the records. -/
structure ScI (w w1 : World) (Br : Nat) (pre : List Tx) (v : Value) (W : World) : Prop where
  b0 : At W w.heap.size 69 #[v]
  b1 : At W (w.heap.size + 1) 3 #[.int .i64 ((framesL (pre.map Tx.b)).length : Int)]
  row : RowG W (Own1 v) 51 1 v pre.length (txC pre)
  own : ∀ k, v.ownBlock = some k → Br < k
  recs : ∀ x ∈ pre, InC W (fun k => w1.heap.size ≤ k ∧ k < Br) x
  fr : Fr No w W
  size : w1.heap.size ≤ W.heap.size
theorem ScI.own_ {w w1 : World} {Br : Nat} {pre : List Tx} {v : Value} {W W' : World} {row : Option Nat} (h : ScI w w1 Br pre v W) (hw : w.heap.size ≤ w1.heap.size) (hg : W.grownBy W' row) (hr : Turns w1.heap.size W row) : ScI w w1 Br pre v W' :=
  ⟨own_at h.b0 hg hr, own_at h.b1 hg hr, own_rowG h.row hg hr, h.own, fun x hx => ⟨own_in (h.recs x hx).inn hg hr, (h.recs x hx).le, (h.recs x hx).mx⟩, own_fr hw h.fr hg hr, Nat.le_trans h.size hg.size⟩
theorem ScI.keep {w w1 : World} {Br : Nat} {pre : List Tx} {v : Value} {W W' : World} (h : ScI w w1 Br pre v W) (hw : w.heap.size + 3 ≤ w1.heap.size) (hB : w1.heap.size ≤ Br) (f : Fr (One Br) W W') : ScI w w1 Br pre v W' :=
  ⟨h.b0.keep f (fun e => by have e : w.heap.size = Br := e; omega), h.b1.keep f (fun e => by have e : w.heap.size + 1 = Br := e; omega), h.row.keep f (fun k hk e => by
      have := h.own k hk
      have e : k = Br := e
      omega), h.own, fun x hx => (h.recs x hx).keep f fun k hk e => by
      have := hk.2
      have e : k = Br := e
      omega, h.fr.then_ f fun k hk e => by
      have e : k = Br := e
      omega, Nat.le_trans h.size f.size⟩
/-- A round's end. -/
theorem ScI.put {w w1 : World} {Br : Nat} {pre : List Tx} {v v' : Value} {W W2 : World} {x : Tx} (h : ScI w w1 Br pre v W) (hw : w.heap.size + 3 ≤ w1.heap.size) (hB : w1.heap.size ≤ Br) (hBW : Br < W.heap.size) (hin : InC W (fun k => w1.heap.size ≤ k ∧ k < Br) x)
    (hrow : RowG W2 (Gr (Own1 v) W W2) 51 1 v' (pre.length + 1) (txC pre ++ [txV x])) (hfr : Fr (Own1 v) W W2) :
    ScI w w1 Br (pre ++ [x]) v' ((W2.setCell ⟨w.heap.size, 0, none⟩ v').setCell ⟨w.heap.size + 1, 0, none⟩ (.int .i64 ((framesL ((pre ++ [x]).map Tx.b)).length : Int))) ∧
      Fr (fun k => (k = w.heap.size ∨ k = w.heap.size + 1) ∨ Br < k) W ((W2.setCell ⟨w.heap.size, 0, none⟩ v').setCell ⟨w.heap.size + 1, 0, none⟩ (.int .i64 ((framesL ((pre ++ [x]).map Tx.b)).length : Int))) ∧
      KeepsOthers W ((W2.setCell ⟨w.heap.size, 0, none⟩ v').setCell ⟨w.heap.size + 1, 0, none⟩ (.int .i64 ((framesL ((pre ++ [x]).map Tx.b)).length : Int))) ∧
      W2.cell? ⟨w.heap.size, 0, none⟩ = some v ∧ W2.frozen? ⟨w.heap.size, 0, none⟩ = false ∧
      (∃ u, (W2.setCell ⟨w.heap.size, 0, none⟩ v').cell? ⟨w.heap.size + 1, 0, none⟩ = some u) ∧ (W2.setCell ⟨w.heap.size, 0, none⟩ v').frozen? ⟨w.heap.size + 1, 0, none⟩ = false := by
  have hl0 : ¬ Own1 v w.heap.size := fun e => by have := h.own _ e; omega
  have hl1 : ¬ Own1 v (w.heap.size + 1) := fun e => by have := h.own _ e; omega
  have k0 := h.b0.keep hfr hl0
  have k1 := h.b1.keep hfr hl1
  have fa : Fr (One w.heap.size) W2 (W2.setCell ⟨w.heap.size, 0, none⟩ v') := (Fr.refl (One w.heap.size) W2).setCell (p := ⟨w.heap.size, 0, none⟩) (fun _ => (rfl : w.heap.size = w.heap.size)) _
  have fb : Fr (One (w.heap.size + 1)) (W2.setCell ⟨w.heap.size, 0, none⟩ v') ((W2.setCell ⟨w.heap.size, 0, none⟩ v').setCell ⟨w.heap.size + 1, 0, none⟩ (.int .i64 ((framesL ((pre ++ [x]).map Tx.b)).length : Int))) :=
    (Fr.refl (One (w.heap.size + 1)) _).setCell (p := ⟨w.heap.size + 1, 0, none⟩) (fun _ => (rfl : w.heap.size + 1 = w.heap.size + 1)) _
  have n01 : ¬ One w.heap.size (w.heap.size + 1) := fun e => by have e : w.heap.size + 1 = w.heap.size := e; omega
  have n10 : ¬ One (w.heap.size + 1) w.heap.size := fun e => by have e : w.heap.size = w.heap.size + 1 := e; omega
  have k1a := k1.keep fa n01
  have hv : ∀ k, v'.ownBlock = some k → Br < k := fun k hk => (hrow.2 k hk).elim (h.own k) fun h => by omega
  have hrow' : RowG W2 (Own1 v') 51 1 v' (pre ++ [x]).length (txC (pre ++ [x])) := by
    have e : txC (pre ++ [x]) = txC pre ++ [txV x] := by unfold txC; rw [List.map_append]; rfl
    rw [e, List.length_append]
    exact ⟨hrow.1, fun k hk => hk⟩
  refine ⟨⟨(k0.set_ 0 v').keep fb n10, k1a.set_ 0 _, (hrow'.keep fa ?_).keep fb ?_, hv, ?_, ?_, ?_⟩, ?_, ?_, k0.cell 0, k0.frozen 0, ⟨_, k1a.cell 0⟩, k1a.frozen 0⟩
  · intro k hk e
    have := hv k hk
    have e : k = w.heap.size := e
    omega
  · intro k hk e
    have := hv k hk
    have e : k = w.heap.size + 1 := e
    omega
  · intro y hy
    have hy' : InC W (fun k => w1.heap.size ≤ k ∧ k < Br) y := by
      rcases List.mem_append.1 hy with hy | hy
      · exact h.recs y hy
      · obtain rfl := List.mem_singleton.1 hy
        exact hin
    refine ((hy'.keep hfr ?_).keep fa ?_).keep fb ?_
    · intro k hk e
      have := h.own k e
      have := hk.2
      omega
    · intro k hk e
      have e : k = w.heap.size := e
      have := hk.1
      omega
    · intro k hk e
      have e : k = w.heap.size + 1 := e
      have := hk.1
      omega
  · refine ((h.fr.then_ hfr ?_).then_ fa ?_).then_ fb ?_
    · intro k hk e
      have := h.own k e
      omega
    · intro k hk e
      have e : k = w.heap.size := e
      omega
    · intro k hk e
      have e : k = w.heap.size + 1 := e
      omega
  · exact Nat.le_trans (Nat.le_trans (Nat.le_trans h.size hfr.size) fa.size) fb.size
  · exact ((hfr.sub (T := fun k => (k = w.heap.size ∨ k = w.heap.size + 1) ∨ Br < k) fun k _ e => .inr (h.own k e)).then_ fa fun k _ e => .inl (.inl e)).then_ fb fun k _ e => .inl (.inr e)
  · exact ((h.row.others hfr).trans (KeepsOthers.setCell _ _ _)).trans (KeepsOthers.setCell _ _ _)
def ScanRetC (l : List UInt8) (w : World) (e : Ending) (w' : World) : Prop :=
  ∃ v xs, e = .returned (.tuple #[v, .int .i64 ((framesL (scanL l)).length : Int)]) ∧ TxR w' w.heap.size v xs ∧ xs.map Tx.b = scanL l ∧ Fr No w w' ∧ ∀ x ∈ xs, x.b.length ≤ x.c ∧ x.c ≤ maxLen
set_option maxRecDepth 100000 in
set_option maxHeartbeats 4000000 in
theorem scanC_c (a : Option Addr) (len cap : Nat) (l : List UInt8) (w : World) (hl : l.length = len) (hm : len ≤ 100000) (hc : len ≤ cap) (hr : Rd w a l) (ht : Tab w) :
    Calls Tryd.prog 54 #[.slice a len cap] w (ScanRetC l w) := by
  obtain ⟨W2, hW2⟩ : ∃ W, (w.alloc (.cells #[.slice none 0 0] 69)).alloc (.cells #[.int .i64 0] 3) = W := ⟨_, rfl⟩
  obtain ⟨w1, hw1⟩ : ∃ W, W2.alloc (.cells #[.slice a len cap] 51) = W := ⟨_, rfl⟩
  have s2 : W2.heap.size = w.heap.size + 2 := by rw [← hW2]; simp
  have s1 : w1.heap.size = w.heap.size + 3 := by rw [← hw1, World.size_alloc, s2]
  have f2 : Fr No w W2 := by rw [← hW2]; exact ((Fr.refl No w).alloc _).alloc _
  have f1 : Fr No w w1 := by rw [← hw1]; exact f2.alloc _
  have b0 : At w1 w.heap.size 69 #[.slice none 0 0] := by
    rw [← hw1, ← hW2]
    exact ((At.new w _ _).keep ((Fr.refl No _).alloc _) (fun h => h)).keep ((Fr.refl No _).alloc _) (fun h => h)
  have b1 : At w1 (w.heap.size + 1) 3 #[.int .i64 0] := by
    have q := At.new (w.alloc (.cells #[.slice none 0 0] 69)) 3 #[.int .i64 0]
    rw [World.size_alloc] at q
    rw [← hw1, ← hW2]
    exact q.keep ((Fr.refl No _).alloc _) (fun h => h)
  have bX : w1.cell? ⟨w.heap.size + 2, 0, none⟩ = some (.slice a len cap) := by
    have q := At.new W2 51 #[.slice a len cap]
    rw [s2, hw1] at q
    exact q.cell 0
  have HC := Lib.hid (frames_c a len cap W2)
  rw [hw1, s2] at HC
  have HW2 := Lib.hid hW2
  have H0 : Hid (∀ Br, ScI w w1 Br [] (.slice none 0 0) w1) := Lib.hid fun Br => ⟨b0, b1, RowG.nil _ _ _ _, fun k h => absurd h (by simp [Value.ownBlock]), fun x h => absurd h (List.not_mem_nil), f1, Nat.le_refl _⟩
  have HF1 := Lib.hid f1
  have HR := Lib.hid hr
  have HT := Lib.hid ht
  have hG := cell_block (ht 0 (by omega))
  have hG : 0 < w.heap.size := hG
  have HL := Lib.hid hl
  clear hr ht hl b0 b1 f2 f1 hW2 hw1
  refine (callsIn_wide (n := 5)).1 ?_
  refine callsIn_of_wp_marks Tryd.func54 rfl trivial ?_ rfl
  simp only [Tryd.ntmps54, List.size_toArray, List.length_cons, List.length_nil, Nat.reduceAdd, Nat.reduceSub, Array.replicate_succ, Array.replicate_zero, List.push_toArray, List.append_toArray, List.nil_append, List.cons_append]
  refine wpIn_wide.2 ?_
  go_wp2_with fail
  rw [HW2.out]
  refine (show Calls _ _ _ _ _ from HC.out).mono ?_
  rintro e w' ⟨rfl, rfl⟩
  go_wp2_with fail
  refine (wpIn_wide (n := 5)).1 ?_
  refine each_frame (X := w.heap.size + 2) (ad := a) (cap := cap) (b := l) (by rw [HL.out]; exact hm) (by rw [HL.out]; exact hc) (fun k => k = w.heap.size ∨ k = w.heap.size + 1) (by rw [HL.out]; exact bX) (fun h => by omega)
    (((In.of_rd HR.out).keep HF1.out (fun _ _ h => h)).sub fun k _ hk h => by
      have hk : k < w.heap.size := hk
      omega) (HT.out.keep HF1.out (fun h => h)) (fun h => by omega) (fun k hk => by omega) rfl rfl (fun Br pre W => ∃ v, ScI w w1 Br pre v W)
    (fun Br pre W W' row ⟨v, h⟩ hg hr => ⟨v, h.own_ (by omega) hg hr⟩) (fun Br pre Wa Wb ⟨v, h⟩ hB f => ⟨v, h.keep (by omega) hB f⟩) (fun Br _ => ⟨_, H0.out Br⟩)
    (fun en x => { tmps := #[.slice a len cap, undef, .pointer (some ⟨w.heap.size, 0, none⟩), .pointer (some ⟨w.heap.size + 1, 0, none⟩), .int .i64 (en : Int), .slice x.a x.b.length x.c, .slice a len cap, seqF (w.heap.size + 2), .int .i64 (en : Int), .slice x.a x.b.length x.c, undef, undef, undef, undef, undef, undef, undef], defers := [] }) ?assign ?body ?done
  case assign =>
    intro y en x W K hK
    gi_wp2
    exact hK
  case body =>
    rintro y Br pre x W ⟨v, hI⟩ hBr hBW hlen hin
    rw [HL.out] at hlen
    have HIN := hI
    have c0 := hI.b0.cell 0
    obtain ⟨v', W3, hrun, hrow, hfr⟩ := RowG.push rowTx hI.row (fun k hk => (hI.row.1.lt k hk).2) [txV x] rfl (by intro u hu; rw [List.mem_singleton.1 hu]; rfl) (by omega) (by omega)
    obtain ⟨p1, p2, p3, p4, p5, ⟨u, p6⟩, p7⟩ := hI.put (by omega) hBr hBW hin hrow hfr
    obtain ⟨va, vc, rfl, _⟩ := hrow.form
    obtain ⟨en, hen⟩ : ∃ n, (framesL ((pre ++ [x]).map Tx.b)).length = n := ⟨_, rfl⟩
    rw [hen] at p1 p2 p3 ⊢
    have H1 : Hid (∃ v, ScI w w1 Br (pre ++ [x]) v _) := Lib.hid ⟨_, p1⟩
    have H2 := Lib.hid p2
    have H3 := Lib.hid p3
    obtain ⟨xa, xc, xb⟩ := x
    have HRUN := Lib.hid hrun
    clear hrun hrow hfr hI HIN p1 p2 p3 hin hen
    gi_wp2_with (gi_at_builtin; refine wpListIn_append_run rfl _ _ 69 rfl rfl rfl HRUN.out ?_)
    exact ⟨H3.out.from _, H2.out, H1.out⟩
  case done =>
    rename_i hKK
    rintro D Br xs W hD hBr hxs ⟨v, hI⟩ hK
    refine hKK _ _ ?_
    clear hKK
    obtain ⟨va, vc, rfl, _⟩ := hI.row.form
    obtain ⟨xn, hxn⟩ : ∃ n, xs.length = n := ⟨_, rfl⟩
    obtain ⟨en, hen⟩ : ∃ n, (framesL (xs.map Tx.b)).length = n := ⟨_, rfl⟩
    have HI := Lib.hid hI
    rw [hxn] at HI
    have b1 := hI.b1
    rw [hen] at b1
    have b0 := hI.b0
    rw [hxn] at b0
    have c0 := b0.cell 0
    have q0 := b0.frozen 0
    have c1 := b1.cell 0
    have q1 := b1.frozen 0
    have fa : Fr (One w.heap.size) W (W.setCell ⟨w.heap.size, 0, none⟩ (.slice va xn vc)) := (Fr.refl (One w.heap.size) W).setCell (p := ⟨w.heap.size, 0, none⟩) (fun _ => (rfl : w.heap.size = w.heap.size)) _
    have fb : Fr (One (w.heap.size + 1)) W (W.setCell ⟨w.heap.size + 1, 0, none⟩ (.int .i64 (en : Int))) := (Fr.refl (One (w.heap.size + 1)) W).setCell (p := ⟨w.heap.size + 1, 0, none⟩) (fun _ => (rfl : w.heap.size + 1 = w.heap.size + 1)) _
    have n01 : ¬ One w.heap.size (w.heap.size + 1) := fun e => by have e : w.heap.size + 1 = w.heap.size := e; omega
    have n10 : ¬ One (w.heap.size + 1) w.heap.size := fun e => by have e : w.heap.size = w.heap.size + 1 := e; omega
    have c1a := (b1.keep fa n01).cell 0
    have q1a := (b1.keep fa n01).frozen 0
    have c0b := (b0.keep fb n10).cell 0
    have q0b := (b0.keep fb n10).frozen 0
    have fab : Fr (One (w.heap.size + 1)) (W.setCell ⟨w.heap.size, 0, none⟩ (.slice va xn vc)) ((W.setCell ⟨w.heap.size, 0, none⟩ (.slice va xn vc)).setCell ⟨w.heap.size + 1, 0, none⟩ (.int .i64 (en : Int))) := (Fr.refl (One (w.heap.size + 1)) _).setCell (p := ⟨w.heap.size + 1, 0, none⟩) (fun _ => (rfl : w.heap.size + 1 = w.heap.size + 1)) _
    have FZ := Lib.hid ((fa.sub (T := fun k => k = w.heap.size ∨ k = w.heap.size + 1) fun k _ e => .inl e).then_ fab fun k _ e => .inr e).drew
    have B0 := Lib.hid (((b0.set_ 0 (.slice va xn vc)).keep fab n10).keep (Fr.refl No _).drew (fun h => h))
    have B1 := Lib.hid (((b1.keep fa n01).set_ 0 (.int .i64 (en : Int))).keep (Fr.refl No _).drew (fun h => h))
    have HKZ := Lib.hid (((KeepsOthers.setCell W ⟨w.heap.size, 0, none⟩ (.slice va xn vc)).trans (KeepsOthers.setCell _ ⟨w.heap.size + 1, 0, none⟩ (.int .i64 (en : Int)))).trans (KeepsOthers.drew _) |>.same _ _ hK rfl)
    have HEN := Lib.hid hen
    have HXN := Lib.hid hxn
    have HK := Lib.hid hK
    have HXS := Lib.hid hxs
    clear hI b0 b1 fa fb n01 n10 hen hxn hK hxs
    go_wp2_with fail
    all_goals go_region
    rename_i hKK
    refine hKK _ _ ?_
    clear hKK
    go_wp2_with fail
    refine ⟨by simp, .inl ⟨_, _, rfl, run_takeDeferred HKZ.out, ?_⟩⟩
    obtain ⟨Z, hZ⟩ : ∃ Z, ((W.setCell ⟨w.heap.size, 0, none⟩ (.slice va xn vc)).setCell ⟨w.heap.size + 1, 0, none⟩ (.int .i64 (en : Int))).drew = Z := ⟨_, rfl⟩
    have FZ := FZ.out
    have B0 := B0.out
    have B1 := B1.out
    have HKZ := HKZ.out
    rw [hZ] at FZ B0 B1 HKZ ⊢
    have hg := grownBy_putObj' Z D (.deferred none)
    have hr : Turns w1.heap.size Z (some D) := fun r e => by cases e; exact ⟨hD, _, HKZ, rfl⟩
    have hI := HI.out
    have gB : w1.heap.size ≤ W.heap.size := hI.size
    have r1 := own_rowG (hI.row.keep FZ fun k hk e => by have := hI.own k hk; omega) hg hr
    have r2 : Fr No w (Z.putObj D (.deferred none)) := own_fr (by omega) (hI.fr.then_ FZ fun k hk e => by omega) hg hr
    refine ⟨_, results_sl rfl Tryd.underlying69 Tryd.underlying3 _ _ _ _ _ _ rfl rfl ((own_at B0 hg hr).cell 0) ((own_at B1 hg hr).cell 0), _, xs, ?_, ⟨r1, fun k hk => by have := hI.own k hk; omega, fun x hx => ?_⟩, HXS.out, r2, fun x hx => ⟨(hI.recs x hx).le, (hI.recs x hx).mx⟩⟩
    · rw [← HXS.out, HEN.out]
      rfl
    · refine (own_in ((hI.recs x hx).inn.keep FZ fun k hk e => by have := hk.1; omega) hg hr).sub fun k _ hk => ⟨by have := hk.1; omega, fun e => ?_⟩
      have := hI.own k e
      have := hk.2
      omega
theorem scan_c (a : Option Addr) (len cap : Nat) (l : List UInt8) (w : World) (hl : l.length = len) (hm : len ≤ 100000) (hc : len ≤ cap) (hr : Rd w a l) (ht : Tab w) :
    Calls Tryd.prog 54 #[.slice a len cap] w (ScanRet l w) := (scanC_c a len cap l w hl hm hc hr ht).mono fun e w' ⟨v, xs, h1, h2, h3, h4, _⟩ => ⟨v, xs, h1, h2, h3, h4⟩
end Go.Proofs.YtihahckjcedceaaDoor
