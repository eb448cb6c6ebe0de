/-
  The walk of WireReads.
-/
import Derived.Test.YtpjfdhgkclnagaaWireI
namespace Go.Proofs.Ytpjfdhgkclnagaa
set_option linter.unusedVariables false
open Go.RowKit

theorem readI_none {p : Nat} {bs : List UInt8} (h : dec 9 0 (bs.drop p) = none) : readI p bs = (0, -1) := by
  unfold readI decI
  rw [h]
  rfl
theorem readI_some {p n k : Nat} {bs : List UInt8} (h : dec 9 0 (bs.drop p) = some (n, k)) : readI p bs = ((n : Int), ((p + k : Nat) : Int)) := by
  unfold readI decI fin_
  rw [h]
  simp only
  rw [if_neg (by omega)]
  simp
theorem numS_none {bs : List UInt8} (h : dec 9 0 bs = none) : numS (bs, false) = (0, (bs, true)) := by simp [numS, h]
theorem numS_some {bs : List UInt8} {n k : Nat} (h : dec 9 0 bs = some (n, k)) : numS (bs, false) = (n, (bs.drop k, false)) := by simp [numS, h]
theorem textS_none {bs : List UInt8} {b : Bool} (h : dec 9 0 bs = none) : textS (bs, b) = ([], (bs, true)) := by simp [textS, h]
theorem textS_long {bs : List UInt8} {n k : Nat} (h : dec 9 0 bs = some (n, k)) (hk : k ≤ bs.length) (hn : bs.length - k < n) : textS (bs, false) = ([], (bs, true)) := by
  simp only [textS, h, takeS]
  rw [if_pos (.inr (.inr (by omega)))]
theorem textS_fits {bs : List UInt8} {n k : Nat} (h : dec 9 0 bs = some (n, k)) (hn : n + k ≤ bs.length) : textS (bs, false) = ((bs.drop k).take n, (bs.drop (k + n), false)) := by
  simp only [textS, h, takeS]
  rw [if_neg (by simp; omega)]
  simp
theorem takeS_out {bs : List UInt8} {n : Int} (h : n < 0 ∨ (bs.length : Int) < n) : takeS 0 n (bs, false) = ([], (bs, true)) := by
  simp only [takeS]
  rw [if_pos (.inr (h.elim .inl fun h => .inr (by simp; omega)))]
theorem takeS_in {bs : List UInt8} {n : Nat} (h : n ≤ bs.length) : takeS 0 n (bs, false) = (bs.take n, (bs.drop n, false)) := by
  simp only [takeS]
  rw [if_neg (by simp; omega)]
  simp
theorem done_eq {bs : List UInt8} {p m : Nat} (hm : bs.length = m) (hp : p = m) : doneI (bs.drop p, false) = 0 := by
  unfold doneI
  rw [if_neg]
  simp only [List.length_drop]
  intro h
  rcases h with h | h
  · cases h
  · omega
theorem done_lt {bs : List UInt8} {p m : Nat} (hm : bs.length = m) (hp : p ≤ m) (hn : p ≠ m) : doneI (bs.drop p, false) = 20 := by
  unfold doneI
  rw [if_pos]
  right
  simp only [List.length_drop]
  omega
theorem StRet.st {v : Value} {B : Nat} {S : Nat → Prop} {st st' : St} {w : World} {e : Ending} {w' : World} (h : StRet v B S st w e w') (h2 : st = st') : StRet v B S st' w e w' := h2 ▸ h
/-- Left of a reader that has read p bytes of m. -/
theorem rleft_p {w : World} {B : Nat} {S : Nat → Prop} {bs : List UInt8} {p m : Nat} {b : Bool} (hm : bs.length = m) (hp : p ≤ m) (hr : Rr w B S (bs.drop p, b)) :
    Calls Try.prog 26 #[.pointer (some ⟨B, 0, none⟩)] w fun e w' => e = .returned (.int .i64 ((m : Int) - (p : Int))) ∧ w = w' := by
  have h := rleft_c w B S _ hr
  rw [show (((bs.drop p, b).1.length : Nat) : Int) = (m : Int) - (p : Int) by simp only [List.length_drop]; omega] at h
  exact h

set_option maxRecDepth 40000 in
set_option maxHeartbeats 16000000 in
theorem wireReads_go (w : World) (a0 : Option Addr) (cap0 : Nat) (bs : List UInt8) (hb : bs.length ≤ 2000) (hc : bs.length ≤ cap0) (hm0 : cap0 ≤ maxLen) (hr : Rd w a0 bs) (a : Option Addr) (cap : Nat) (l : List It) (hm : l.length ≤ maxLen) (hs : smallB l = true) (hi : Items w a l) :
    Calls Try.prog 4 #[.slice a0 bs.length cap0, .slice a l.length cap] w fun e w' => e = .returned (.bool true) ∧ Fr No w w' := by
  have CS := small_c a cap l w hm hi
  rw [hs] at CS
  obtain ⟨h60, h500⟩ := smallB_yes l hs
  obtain ⟨len, hlen⟩ : ∃ len, l.length = len := ⟨_, rfl⟩
  obtain ⟨m, hbm⟩ : ∃ m, bs.length = m := ⟨_, rfl⟩
  rw [hlen] at CS h60 ⊢
  rw [hbm] at hb hc ⊢
  unfold maxLen at hm0
  have CS := Lib.hid CS
  have HL := Lib.hid hlen
  have HB := Lib.hid hbm
  have HI := Lib.hid hi
  have HR := Lib.hid hr
  clear hi hlen hr hbm h500 hs hm
  go_enter Try.func4, Try.ntmps4
  go_wp2_with fail
  refine (show Calls _ _ _ _ _ from CS.out).mono ?_
  rintro e w1 ⟨rfl, f1⟩
  have C1 := Lib.hid (newr_c a0 m cap0 bs w1 HB.out (by omega) (HR.out.keep f1))
  have F1 := Lib.hid f1
  clear f1 CS
  go_wp2_with fail
  refine (show Calls _ _ _ _ _ from C1.out).mono ?_
  rintro e w2 ⟨R, S, rfl, hr, f2, hR, hS⟩
  have HRR : Hid (w.heap.size ≤ R) := Lib.hid (Nat.le_trans F1.out.size hR)
  have F2 := Lib.hid (F1.out.then_ f2 fun _ _ h => h)
  have H2 : Hid (Rr w2 R S (bs.drop 0, false)) := Lib.hid hr
  clear hr f2 hR hS C1 F1
  go_wp2_with fail
  go_loopw [6, 7, 28] (fun x y i wr => ∃ (k p : Nat) (bad : Bool), x = .int .i64 p ∧ y = .bool bad ∧ i = .int .i64 k ∧ k ≤ len ∧ p ≤ m ∧ Fr No w wr ∧ Rr wr R S (bs.drop p, bad)) (fun _ _ i _ => len - (intOf i).toNat)
  case atStart => exact ⟨0, 0, false, rfl, rfl, rfl, Nat.zero_le _, Nat.zero_le _, F2.out, H2.out⟩
  case round =>
    obtain ⟨k, p, bad, rfl, rfl, rfl, hk, hp, hfr, hrr⟩ := hrel
    clear F2 H2
    have HF := Lib.hid hfr
    have HQ := Lib.hid hrr
    clear hfr hrr
    by_cases hlt : k < len
    · have hkl : k < l.length := by rw [HL.out]; exact hlt
      obtain ⟨b, o, rfl, hx⟩ := HI.out (by omega)
      have hx := (hx k l[k] (List.getElem?_eq_getElem hkl)).keep HF.out
      generalize l[k] = x at hx
      obtain ⟨c0, c1, c2, wk, wn, h1, h2, _⟩ := hx
      obtain ⟨kd, n, a, c, xb⟩ := x
      simp only at c0 c1 c2 wk wn h1 h2
      have hn := wf_le wn
      unfold maxLen at h2
      generalize xb.length = xm at *
      clear wk wn
      have HF1 := Lib.hid (HF.out.alloc (.cells #[.int .i64 kd, .int .i64 n, .slice a xm c] 29))
      have HQ1 := Lib.hid (HQ.out.keep ((Fr.refl No wr).alloc (.cells #[.int .i64 kd, .int .i64 n, .slice a xm c] 29)) (fun h => h) fun _ _ h => h)
      have HRd := Lib.hid (HR.out.keep HF1.out)
      have HLD : Hid ((bs.drop p).length = m - p) := Lib.hid (by rw [List.length_drop, HB.out])
      by_cases k1 : kd = 1
      · as_aux_lemma =>
          have CR := read_c a0 m cap0 p bs (wr.alloc (.cells #[.int .i64 kd, .int .i64 n, .slice a xm c] 29)) HB.out (by omega) hp HRd.out
          cases hd : dec 9 0 (bs.drop p) with
          | none =>
            rw [readI_none hd] at CR
            unfold retII at CR
            have CR := Lib.hid CR
            have HN : Hid (Calls Try.prog 20 #[.pointer (some ⟨R, 0, none⟩)] (wr.alloc (.cells #[.int .i64 kd, .int .i64 n, .slice a xm c] 29)) (StRet (.int .i64 0) R S (bs.drop p, true) (wr.alloc (.cells #[.int .i64 kd, .int .i64 n, .slice a xm c] 29)))) := by
              have h := rnum_c _ R S _ HQ1.out
              cases bad with
              | true => exact Lib.hid h
              | false => rw [numS_none hd] at h; exact Lib.hid h
            clear HQ HQ1 hd
            subst k1
            cases bad with
            | true =>
              go_wp2_with fail
              refine (show Calls _ _ _ _ _ from CR.out).mono ?_
              rintro e w3 ⟨rfl, rfl⟩
              go_wp2_with fail
              refine (show Calls _ _ _ _ _ from HN.out).mono ?_
              rintro e w4 ⟨rfl, hr4, f4⟩
              have H4 := Lib.hid hr4
              have F4 := Lib.hid (HF1.out.one f4 HRR.out)
              clear hr4 f4 CR HN
              go_wp2_with fail
              refine (show Calls _ _ _ _ _ from rbad_c w4 R S _ H4.out).mono ?_
              rintro e w5 ⟨rfl, rfl⟩
              go_wp2_with fail
              go_roundw
              case rel => exact ⟨k + 1, p, true, rfl, rfl, by go_num, by omega, by omega, F4.out, H4.out⟩
              case measure => simp [intOf]; omega
            | false =>
              go_wp2_with fail
              refine (show Calls _ _ _ _ _ from CR.out).mono ?_
              rintro e w3 ⟨rfl, rfl⟩
              go_wp2_with fail
              refine (show Calls _ _ _ _ _ from HN.out).mono ?_
              rintro e w4 ⟨rfl, hr4, f4⟩
              have H4 := Lib.hid hr4
              have F4 := Lib.hid (HF1.out.one f4 HRR.out)
              clear hr4 f4 CR HN
              go_wp2_with fail
              refine (show Calls _ _ _ _ _ from rbad_c w4 R S _ H4.out).mono ?_
              rintro e w5 ⟨rfl, rfl⟩
              go_wp2_with fail
              go_roundw
              case rel => exact ⟨k + 1, p, true, rfl, rfl, by go_num, by omega, by omega, F4.out, H4.out⟩
              case measure => simp [intOf]; omega
          | some q =>
            obtain ⟨N, s⟩ := q
            obtain ⟨d1, d2, d3, d4⟩ := dec_lt9 _ _ _ hd
            rw [readI_some hd] at CR
            unfold retII at CR
            obtain ⟨p', hp'⟩ : ∃ p', p' = p + s := ⟨_, rfl⟩
            rw [← hp'] at CR
            have HP : Hid (p' ≤ m) := Lib.hid (by have := HLD.out; omega)
            have HPe := Lib.hid hp'
            have CR := Lib.hid CR
            have hN := rnum_c _ R S _ HQ1.out
            have HD := Lib.hid hd
            clear HQ HQ1 hd d1 d2 d3 hp'
            subst k1
            cases bad with
            | true =>
              have HN := Lib.hid (show Calls _ _ _ _ (StRet (.int .i64 0) R S (bs.drop p, true) _) from hN)
              clear hN
              go_wp2_with fail
              refine (show Calls _ _ _ _ _ from CR.out).mono ?_
              rintro e w3 ⟨rfl, rfl⟩
              go_wp2_with fail
              refine (show Calls _ _ _ _ _ from HN.out).mono ?_
              rintro e w4 ⟨rfl, hr4, f4⟩
              have H4 := Lib.hid hr4
              have F4 := Lib.hid (HF1.out.one f4 HRR.out)
              clear hr4 f4 CR HN
              go_wp2_with fail
              refine (show Calls _ _ _ _ _ from rbad_c w4 R S _ H4.out).mono ?_
              rintro e w5 ⟨rfl, rfl⟩
              go_wp2_with fail
              go_roundw
              case rel => exact ⟨k + 1, p, true, rfl, rfl, by go_num, by omega, by omega, F4.out, H4.out⟩
              case measure => simp [intOf]; omega
            | false =>
              rw [numS_some HD.out, List.drop_drop, ← HPe.out] at hN
              have HN := Lib.hid hN
              have hd0 : decide ((p' : Int) < 0) = false := by rw [decide_eq_false_iff_not]; omega
              have hpo := HP.out
              clear hN
              go_wp2_with fail
              refine (show Calls _ _ _ _ _ from CR.out).mono ?_
              rintro e w3 ⟨rfl, rfl⟩
              go_wp2_with fail
              refine (show Calls _ _ _ _ _ from HN.out).mono ?_
              rintro e w4 ⟨rfl, hr4, f4⟩
              have H4 := Lib.hid hr4
              have F4 := Lib.hid (HF1.out.one f4 HRR.out)
              clear hr4 f4 CR HN
              go_wp2_with fail
              refine (show Calls _ _ _ _ _ from rbad_c w4 R S _ H4.out).mono ?_
              rintro e w5 ⟨rfl, rfl⟩
              go_wp2_with fail
              refine (rleft_p HB.out HP.out H4.out).mono ?_
              rintro e w5 ⟨rfl, rfl⟩
              go_wp2_with fail
              go_roundw
              case rel => exact ⟨k + 1, p', false, rfl, rfl, by go_num, by omega, HP.out, F4.out, H4.out⟩
              case measure => simp [intOf]; omega
      by_cases k2 : kd = 2
      · as_aux_lemma =>
          have CR := read_c a0 m cap0 p bs (wr.alloc (.cells #[.int .i64 kd, .int .i64 n, .slice a xm c] 29)) HB.out (by omega) hp HRd.out
          have hN := rtext_c _ R S _ HQ1.out
          cases hd : dec 9 0 (bs.drop p) with
          | none =>
            rw [readI_none hd] at CR
            unfold retII at CR
            have CR := Lib.hid CR
            rw [textS_none hd] at hN
            have HN := Lib.hid hN
            clear HQ HQ1 hd hN
            subst k2
            cases bad with
            | true =>
              go_wp2_with fail
              refine (show Calls _ _ _ _ _ from CR.out).mono ?_
              rintro e w3 ⟨rfl, rfl⟩
              go_wp2_with fail
              refine (show Calls _ _ _ _ _ from HN.out).mono ?_
              rintro e w4 ⟨a4, cap4, rfl, hin4, hr4, f4⟩
              have HIn4 := Lib.hid hin4.rd
              clear hin4
              have H4 := Lib.hid hr4
              have F4 := Lib.hid (HF1.out.one f4 HRR.out)
              clear hr4 f4 CR HN
              go_wp2_with fail
              refine (same_yes rfl rfl HIn4.out (Rd.nil _ _) rfl).mono ?_
              rintro e w5 ⟨rfl, rfl⟩
              go_wp2_with fail
              refine (show Calls _ _ _ _ _ from rbad_c w4 R S _ H4.out).mono ?_
              rintro e w5 ⟨rfl, rfl⟩
              go_wp2_with fail
              go_roundw
              case rel => exact ⟨k + 1, p, true, rfl, rfl, by go_num, by omega, by omega, F4.out, H4.out⟩
              case measure => simp [intOf]; omega
            | false =>
              go_wp2_with fail
              refine (show Calls _ _ _ _ _ from CR.out).mono ?_
              rintro e w3 ⟨rfl, rfl⟩
              go_wp2_with fail
              refine (show Calls _ _ _ _ _ from HN.out).mono ?_
              rintro e w4 ⟨a4, cap4, rfl, hin4, hr4, f4⟩
              have HIn4 := Lib.hid hin4.rd
              clear hin4
              have H4 := Lib.hid hr4
              have F4 := Lib.hid (HF1.out.one f4 HRR.out)
              clear hr4 f4 CR HN
              go_wp2_with fail
              refine (same_yes rfl rfl HIn4.out (Rd.nil _ _) rfl).mono ?_
              rintro e w5 ⟨rfl, rfl⟩
              go_wp2_with fail
              refine (show Calls _ _ _ _ _ from rbad_c w4 R S _ H4.out).mono ?_
              rintro e w5 ⟨rfl, rfl⟩
              go_wp2_with fail
              go_roundw
              case rel => exact ⟨k + 1, p, true, rfl, rfl, by go_num, by omega, by omega, F4.out, H4.out⟩
              case measure => simp [intOf]; omega
          | some q =>
            obtain ⟨N, s⟩ := q
            obtain ⟨d1, d2, d3, d4⟩ := dec_lt9 _ _ _ hd
            rw [readI_some hd] at CR
            unfold retII at CR
            obtain ⟨q, hq⟩ : ∃ q, q = p + s := ⟨_, rfl⟩
            rw [← hq] at CR
            have hqm : q ≤ m := by have := HLD.out; omega
            have CR := Lib.hid CR
            by_cases hfit : (m : Int) - (q : Int) < (N : Int)
            · have hN2 : Calls Try.prog 21 #[.pointer (some ⟨R, 0, none⟩)] (wr.alloc (.cells #[.int .i64 kd, .int .i64 n, .slice a xm c] 29)) (SliceRet R S [] (bs.drop p, true) (wr.alloc (.cells #[.int .i64 kd, .int .i64 n, .slice a xm c] 29))) := by
                cases bad with
                | true => rw [textS_bad] at hN; exact hN
                | false => rw [textS_long hd d2 (by have := HLD.out; omega)] at hN; exact hN
              have HN := Lib.hid hN2
              clear HQ HQ1 hd hN hN2 d1 d2 d3 hq
              subst k2
              cases bad with
              | true =>
                go_wp2_with fail
                refine (show Calls _ _ _ _ _ from CR.out).mono ?_
                rintro e w3 ⟨rfl, rfl⟩
                go_wp2_with fail
                refine (show Calls _ _ _ _ _ from HN.out).mono ?_
                rintro e w4 ⟨a4, cap4, rfl, hin4, hr4, f4⟩
                have HIn4 := Lib.hid hin4.rd
                clear hin4
                have H4 := Lib.hid hr4
                have F4 := Lib.hid (HF1.out.one f4 HRR.out)
                clear hr4 f4 CR HN
                go_wp2_with fail
                refine (same_yes rfl rfl HIn4.out (Rd.nil _ _) rfl).mono ?_
                rintro e w5 ⟨rfl, rfl⟩
                go_wp2_with fail
                refine (show Calls _ _ _ _ _ from rbad_c w4 R S _ H4.out).mono ?_
                rintro e w5 ⟨rfl, rfl⟩
                go_wp2_with fail
                go_roundw
                case rel => exact ⟨k + 1, p, true, rfl, rfl, by go_num, by omega, by omega, F4.out, H4.out⟩
                case measure => simp [intOf]; omega
              | false =>
                go_wp2_with fail
                refine (show Calls _ _ _ _ _ from CR.out).mono ?_
                rintro e w3 ⟨rfl, rfl⟩
                go_wp2_with fail
                refine (show Calls _ _ _ _ _ from HN.out).mono ?_
                rintro e w4 ⟨a4, cap4, rfl, hin4, hr4, f4⟩
                have HIn4 := Lib.hid hin4.rd
                clear hin4
                have H4 := Lib.hid hr4
                have F4 := Lib.hid (HF1.out.one f4 HRR.out)
                clear hr4 f4 CR HN
                go_wp2_with fail
                refine (same_yes rfl rfl HIn4.out (Rd.nil _ _) rfl).mono ?_
                rintro e w5 ⟨rfl, rfl⟩
                go_wp2_with fail
                refine (show Calls _ _ _ _ _ from rbad_c w4 R S _ H4.out).mono ?_
                rintro e w5 ⟨rfl, rfl⟩
                go_wp2_with fail
                go_roundw
                case rel => exact ⟨k + 1, p, true, rfl, rfl, by go_num, by omega, by omega, F4.out, H4.out⟩
                case measure => simp [intOf]; omega
            · cases bad with
              | true =>
                rw [textS_bad] at hN
                have HN := Lib.hid hN
                clear HQ HQ1 hd hN d1 d2 d3 hq
                subst k2
                go_wp2_with fail
                refine (show Calls _ _ _ _ _ from CR.out).mono ?_
                rintro e w3 ⟨rfl, rfl⟩
                go_wp2_with fail
                refine (show Calls _ _ _ _ _ from HN.out).mono ?_
                rintro e w4 ⟨a4, cap4, rfl, hin4, hr4, f4⟩
                have HIn4 := Lib.hid hin4.rd
                clear hin4
                have H4 := Lib.hid hr4
                have F4 := Lib.hid (HF1.out.one f4 HRR.out)
                clear hr4 f4 CR HN
                go_wp2_with fail
                refine (same_yes rfl rfl HIn4.out (Rd.nil _ _) rfl).mono ?_
                rintro e w5 ⟨rfl, rfl⟩
                go_wp2_with fail
                refine (show Calls _ _ _ _ _ from rbad_c w4 R S _ H4.out).mono ?_
                rintro e w5 ⟨rfl, rfl⟩
                go_wp2_with fail
                go_roundw
                case rel => exact ⟨k + 1, p, true, rfl, rfl, by go_num, by omega, by omega, F4.out, H4.out⟩
                case measure => simp [intOf]; omega
              | false =>
                rw [textS_fits hd (by have := HLD.out; omega), List.drop_drop, List.drop_drop] at hN
                obtain ⟨p', hp'⟩ : ∃ p', p' = q + N := ⟨_, rfl⟩
                have hpp : (q : Int) + (N : Int) = (p' : Int) := by omega
                have HP : Hid (p' ≤ m) := Lib.hid (by omega)
                rw [show p + (s + N) = p' by omega, ← hq] at hN
                have HN := Lib.hid hN
                have S1 := cut_both (P := Try.prog) Try.underlying25 sizeU8 a0 m cap0 q p' (by omega) (by omega)
                rw [show p' - q = N by omega] at S1
                have hq9 : (p' : Int) ≤ 2000 := by omega
                have hpo := HP.out
                have hd0 : decide ((p' : Int) < 0) = false := by rw [decide_eq_false_iff_not]; omega
                have HW : Hid (((bs.drop q).take N).length = N) := Lib.hid (by rw [List.length_take, List.length_drop, HB.out]; omega)
                clear HQ HQ1 hd hN d1 d2 d3 hq hp'
                subst k2
                go_wp2_with fail
                refine (show Calls _ _ _ _ _ from CR.out).mono ?_
                rintro e w3 ⟨rfl, rfl⟩
                go_wp2_with fail
                refine (show Calls _ _ _ _ _ from HN.out).mono ?_
                rintro e w4 ⟨a4, cap4, rfl, hin4, hr4, f4⟩
                have HIn4 := Lib.hid hin4.rd
                clear hin4
                have H4 := Lib.hid hr4
                have F4 := Lib.hid (HF1.out.one f4 HRR.out)
                clear hr4 f4 CR HN
                rw [HW.out]
                go_wp2_with fail
                refine (same_yes HW.out HW.out HIn4.out (((HR.out.keep F4.out).drop q cap0 (by rw [HB.out]; exact hc)).take N) rfl).mono ?_
                rintro e w5 ⟨rfl, rfl⟩
                go_wp2_with fail
                refine (show Calls _ _ _ _ _ from rbad_c w4 R S _ H4.out).mono ?_
                rintro e w5 ⟨rfl, rfl⟩
                go_wp2_with fail
                refine (rleft_p HB.out HP.out H4.out).mono ?_
                rintro e w5 ⟨rfl, rfl⟩
                go_wp2_with fail
                go_roundw
                case rel => exact ⟨k + 1, p', false, rfl, rfl, by go_num, by omega, HP.out, F4.out, H4.out⟩
                case measure => simp [intOf]; omega
      by_cases k3 : kd = 3
      · as_aux_lemma =>
          have hN := rraw_c n _ R S _ HQ1.out hn.2
          by_cases n0 : n < 0
          · have hN2 : Calls Try.prog 22 #[.pointer (some ⟨R, 0, none⟩), .int .i64 n] (wr.alloc (.cells #[.int .i64 kd, .int .i64 n, .slice a xm c] 29)) (SliceRet R S [] (bs.drop p, true) (wr.alloc (.cells #[.int .i64 kd, .int .i64 n, .slice a xm c] 29))) := by
              cases bad with
              | true => rw [takeS_bad] at hN; exact hN
              | false => rw [takeS_out (.inl n0)] at hN; exact hN
            have HN := Lib.hid hN2
            clear HQ HQ1 hN hN2
            subst k3
            cases bad with
            | true =>
              go_wp2_with fail
              refine (show Calls _ _ _ _ _ from HN.out).mono ?_
              rintro e w4 ⟨a4, cap4, rfl, hin4, hr4, f4⟩
              have HIn4 := Lib.hid hin4.rd
              clear hin4
              have H4 := Lib.hid hr4
              have F4 := Lib.hid (HF1.out.one f4 HRR.out)
              clear hr4 f4 HN
              go_wp2_with fail
              refine (same_yes rfl rfl HIn4.out (Rd.nil _ _) rfl).mono ?_
              rintro e w5 ⟨rfl, rfl⟩
              go_wp2_with fail
              refine (show Calls _ _ _ _ _ from rbad_c w4 R S _ H4.out).mono ?_
              rintro e w5 ⟨rfl, rfl⟩
              go_wp2_with fail
              go_roundw
              case rel => exact ⟨k + 1, p, true, rfl, rfl, by go_num, by omega, by omega, F4.out, H4.out⟩
              case measure => simp [intOf]; omega
            | false =>
              go_wp2_with fail
              refine (show Calls _ _ _ _ _ from HN.out).mono ?_
              rintro e w4 ⟨a4, cap4, rfl, hin4, hr4, f4⟩
              have HIn4 := Lib.hid hin4.rd
              clear hin4
              have H4 := Lib.hid hr4
              have F4 := Lib.hid (HF1.out.one f4 HRR.out)
              clear hr4 f4 HN
              go_wp2_with fail
              refine (same_yes rfl rfl HIn4.out (Rd.nil _ _) rfl).mono ?_
              rintro e w5 ⟨rfl, rfl⟩
              go_wp2_with fail
              refine (show Calls _ _ _ _ _ from rbad_c w4 R S _ H4.out).mono ?_
              rintro e w5 ⟨rfl, rfl⟩
              go_wp2_with fail
              go_roundw
              case rel => exact ⟨k + 1, p, true, rfl, rfl, by go_num, by omega, by omega, F4.out, H4.out⟩
              case measure => simp [intOf]; omega
          · obtain ⟨N, rfl⟩ := Int.eq_ofNat_of_zero_le (show 0 ≤ n by omega)
            by_cases hfit : (m : Int) - (p : Int) < (N : Int)
            · have hN2 : Calls Try.prog 22 #[.pointer (some ⟨R, 0, none⟩), .int .i64 (N : Int)] (wr.alloc (.cells #[.int .i64 kd, .int .i64 (N : Int), .slice a xm c] 29)) (SliceRet R S [] (bs.drop p, true) (wr.alloc (.cells #[.int .i64 kd, .int .i64 (N : Int), .slice a xm c] 29))) := by
                cases bad with
                | true => rw [takeS_bad] at hN; exact hN
                | false => rw [takeS_out (.inr (by have := HLD.out; omega))] at hN; exact hN
              have HN := Lib.hid hN2
              clear HQ HQ1 hN hN2
              subst k3
              cases bad with
              | true =>
                go_wp2_with fail
                refine (show Calls _ _ _ _ _ from HN.out).mono ?_
                rintro e w4 ⟨a4, cap4, rfl, hin4, hr4, f4⟩
                have HIn4 := Lib.hid hin4.rd
                clear hin4
                have H4 := Lib.hid hr4
                have F4 := Lib.hid (HF1.out.one f4 HRR.out)
                clear hr4 f4 HN
                go_wp2_with fail
                refine (same_yes rfl rfl HIn4.out (Rd.nil _ _) rfl).mono ?_
                rintro e w5 ⟨rfl, rfl⟩
                go_wp2_with fail
                refine (show Calls _ _ _ _ _ from rbad_c w4 R S _ H4.out).mono ?_
                rintro e w5 ⟨rfl, rfl⟩
                go_wp2_with fail
                go_roundw
                case rel => exact ⟨k + 1, p, true, rfl, rfl, by go_num, by omega, by omega, F4.out, H4.out⟩
                case measure => simp [intOf]; omega
              | false =>
                go_wp2_with fail
                refine (show Calls _ _ _ _ _ from HN.out).mono ?_
                rintro e w4 ⟨a4, cap4, rfl, hin4, hr4, f4⟩
                have HIn4 := Lib.hid hin4.rd
                clear hin4
                have H4 := Lib.hid hr4
                have F4 := Lib.hid (HF1.out.one f4 HRR.out)
                clear hr4 f4 HN
                go_wp2_with fail
                refine (same_yes rfl rfl HIn4.out (Rd.nil _ _) rfl).mono ?_
                rintro e w5 ⟨rfl, rfl⟩
                go_wp2_with fail
                refine (show Calls _ _ _ _ _ from rbad_c w4 R S _ H4.out).mono ?_
                rintro e w5 ⟨rfl, rfl⟩
                go_wp2_with fail
                go_roundw
                case rel => exact ⟨k + 1, p, true, rfl, rfl, by go_num, by omega, by omega, F4.out, H4.out⟩
                case measure => simp [intOf]; omega
            · have hNm : (N : Int) ≤ 2000 := by omega
              cases bad with
              | true =>
                rw [takeS_bad] at hN
                have HN := Lib.hid hN
                clear HQ HQ1 hN
                subst k3
                go_wp2_with fail
                refine (show Calls _ _ _ _ _ from HN.out).mono ?_
                rintro e w4 ⟨a4, cap4, rfl, hin4, hr4, f4⟩
                have HIn4 := Lib.hid hin4.rd
                clear hin4
                have H4 := Lib.hid hr4
                have F4 := Lib.hid (HF1.out.one f4 HRR.out)
                clear hr4 f4 HN
                go_wp2_with fail
                refine (same_yes rfl rfl HIn4.out (Rd.nil _ _) rfl).mono ?_
                rintro e w5 ⟨rfl, rfl⟩
                go_wp2_with fail
                refine (show Calls _ _ _ _ _ from rbad_c w4 R S _ H4.out).mono ?_
                rintro e w5 ⟨rfl, rfl⟩
                go_wp2_with fail
                go_roundw
                case rel => exact ⟨k + 1, p, true, rfl, rfl, by go_num, by omega, by omega, F4.out, H4.out⟩
                case measure => simp [intOf]; omega
              | false =>
                rw [takeS_in (by have := HLD.out; omega), List.drop_drop] at hN
                obtain ⟨p', hp'⟩ : ∃ p', p' = p + N := ⟨_, rfl⟩
                have hpp : (p : Int) + (N : Int) = (p' : Int) := by omega
                have HP : Hid (p' ≤ m) := Lib.hid (by omega)
                rw [← hp'] at hN
                have HN := Lib.hid hN
                have S1 := cut_both (P := Try.prog) Try.underlying25 sizeU8 a0 m cap0 p p' (by omega) (by omega)
                rw [show p' - p = N by omega] at S1
                have hq9 : (p' : Int) ≤ 2000 := by omega
                have hpo := HP.out
                have hd0 : decide ((p' : Int) < 0) = false := by rw [decide_eq_false_iff_not]; omega
                have HW : Hid (((bs.drop p).take N).length = N) := Lib.hid (by rw [List.length_take, List.length_drop, HB.out]; omega)
                clear HQ HQ1 hN hp'
                subst k3
                go_wp2_with fail
                refine (show Calls _ _ _ _ _ from HN.out).mono ?_
                rintro e w4 ⟨a4, cap4, rfl, hin4, hr4, f4⟩
                have HIn4 := Lib.hid hin4.rd
                clear hin4
                have H4 := Lib.hid hr4
                have F4 := Lib.hid (HF1.out.one f4 HRR.out)
                clear hr4 f4 HN
                rw [HW.out]
                go_wp2_with fail
                refine (same_yes HW.out HW.out HIn4.out (((HR.out.keep F4.out).drop p cap0 (by rw [HB.out]; exact hc)).take N) rfl).mono ?_
                rintro e w5 ⟨rfl, rfl⟩
                go_wp2_with fail
                refine (show Calls _ _ _ _ _ from rbad_c w4 R S _ H4.out).mono ?_
                rintro e w5 ⟨rfl, rfl⟩
                go_wp2_with fail
                refine (rleft_p HB.out HP.out H4.out).mono ?_
                rintro e w5 ⟨rfl, rfl⟩
                go_wp2_with fail
                go_roundw
                case rel => exact ⟨k + 1, p', false, rfl, rfl, by go_num, by omega, HP.out, F4.out, H4.out⟩
                case measure => simp [intOf]; omega
      by_cases k4 : kd = 4
      · as_aux_lemma =>
          have hN := rbyte_c _ R S _ HQ1.out
          by_cases hpm : p < m
          · cases bad with
            | true =>
              rw [byteS_bad] at hN
              have HN := Lib.hid (show Calls _ _ _ _ (StRet (.int .u8 0) R S (bs.drop p, true) _) from hN)
              clear HQ HQ1 hN
              subst k4
              go_wp2_with fail
              refine (show Calls _ _ _ _ _ from HN.out).mono ?_
              rintro e w4 ⟨rfl, hr4, f4⟩
              have H4 := Lib.hid hr4
              have F4 := Lib.hid (HF1.out.one f4 HRR.out)
              clear hr4 f4 HN
              go_wp2_with fail
              refine (show Calls _ _ _ _ _ from rbad_c w4 R S _ H4.out).mono ?_
              rintro e w5 ⟨rfl, rfl⟩
              go_wp2_with fail
              go_roundw
              case rel => exact ⟨k + 1, p, true, rfl, rfl, by go_num, by omega, by omega, F4.out, H4.out⟩
              case measure => simp [intOf]; omega
            | false =>
              have hdr := drop_at bs p (by rw [HB.out]; exact hpm)
              rw [hdr, byteS_enc] at hN
              obtain ⟨b1, o1, rfl, hcell⟩ := HRd.out (by rw [HB.out]; omega)
              have hx1 := hcell p (by rw [HB.out]; exact hpm)
              generalize bs.getD p 0 = x at *
              have HDR := Lib.hid hdr
              obtain ⟨p', hp'⟩ : ∃ p', p' = p + 1 := ⟨_, rfl⟩
              have hpp : (p : Int) + 1 = (p' : Int) := by omega
              have HP : Hid (p' ≤ m) := Lib.hid (by omega)
              rw [← hp'] at hN
              have HN := Lib.hid (show Calls _ _ _ _ (StRet (.int .u8 (x.toNat : Int)) R S (bs.drop p', false) _) from hN)
              clear HQ HQ1 hN hdr hp' hcell
              subst k4
              go_wp2_with fail
              refine (show Calls _ _ _ _ _ from HN.out).mono ?_
              rintro e w4 ⟨rfl, hr4, f4⟩
              have H4 := Lib.hid hr4
              have F4 := Lib.hid (HF1.out.one f4 HRR.out)
              clear hr4 f4 HN
              go_wp2_with fail
              refine (show Calls _ _ _ _ _ from rbad_c w4 R S _ H4.out).mono ?_
              rintro e w5 ⟨rfl, rfl⟩
              go_wp2_with fail
              refine (rleft_p HB.out HP.out H4.out).mono ?_
              rintro e w5 ⟨rfl, rfl⟩
              go_wp2_with fail
              go_roundw
              case rel => exact ⟨k + 1, p', false, rfl, rfl, by go_num, by omega, HP.out, F4.out, H4.out⟩
              case measure => simp [intOf]; omega
          · have hN2 : Calls Try.prog 23 #[.pointer (some ⟨R, 0, none⟩)] (wr.alloc (.cells #[.int .i64 kd, .int .i64 n, .slice a xm c] 29)) (StRet (.int .u8 0) R S (bs.drop p, true) (wr.alloc (.cells #[.int .i64 kd, .int .i64 n, .slice a xm c] 29))) := by
              have he : bs.drop p = [] := List.drop_eq_nil_of_le (by rw [HB.out]; omega)
              rw [he] at hN ⊢
              cases bad with
              | true => exact hN
              | false => exact hN
            have HN := Lib.hid hN2
            clear HQ HQ1 hN hN2
            subst k4
            cases bad with
            | true =>
              go_wp2_with fail
              refine (show Calls _ _ _ _ _ from HN.out).mono ?_
              rintro e w4 ⟨rfl, hr4, f4⟩
              have H4 := Lib.hid hr4
              have F4 := Lib.hid (HF1.out.one f4 HRR.out)
              clear hr4 f4 HN
              go_wp2_with fail
              refine (show Calls _ _ _ _ _ from rbad_c w4 R S _ H4.out).mono ?_
              rintro e w5 ⟨rfl, rfl⟩
              go_wp2_with fail
              go_roundw
              case rel => exact ⟨k + 1, p, true, rfl, rfl, by go_num, by omega, by omega, F4.out, H4.out⟩
              case measure => simp [intOf]; omega
            | false =>
              go_wp2_with fail
              refine (show Calls _ _ _ _ _ from HN.out).mono ?_
              rintro e w4 ⟨rfl, hr4, f4⟩
              have H4 := Lib.hid hr4
              have F4 := Lib.hid (HF1.out.one f4 HRR.out)
              clear hr4 f4 HN
              go_wp2_with fail
              refine (show Calls _ _ _ _ _ from rbad_c w4 R S _ H4.out).mono ?_
              rintro e w5 ⟨rfl, rfl⟩
              go_wp2_with fail
              go_roundw
              case rel => exact ⟨k + 1, p, true, rfl, rfl, by go_num, by omega, by omega, F4.out, H4.out⟩
              case measure => simp [intOf]; omega
      · have e1 : (kd == 1) = false := by simpa using k1
        have e2 : (kd == 2) = false := by simpa using k2
        have e3 : (kd == 3) = false := by simpa using k3
        have e4 : (kd == 4) = false := by simpa using k4
        clear k1 k2 k3 k4 HQ
        go_wp2_with fail
        go_roundw
        case rel => exact ⟨k + 1, p, bad, rfl, rfl, by go_num, by omega, hp, HF1.out, HQ1.out⟩
        case measure => simp [intOf]; omega
    · have HDn := rdone_c wr R S _ HQ.out
      have HLD : Hid ((bs.drop p).length = m - p) := Lib.hid (by rw [List.length_drop, HB.out])
      cases bad with
      | true =>
        rw [show doneI (bs.drop p, true) = 20 by unfold doneI; simp] at HDn
        have HDn := Lib.hid HDn
        go_wp2_with fail
        refine (show Calls _ _ _ _ _ from HDn.out).mono ?_
        rintro e w5 ⟨rfl, rfl⟩
        go_wp2_with fail
        refine (awake_c wr).mono ?_
        rintro e w6 ⟨rfl, f⟩
        have F := Lib.hid (HF.out.then_ f fun _ _ h => h)
        clear f
        go_wp2_with fail
        go_ret
        exact ⟨rfl, F.out⟩
      | false =>
        by_cases hpm : p = m
        · rw [done_eq HB.out hpm] at HDn
          have HDn := Lib.hid HDn
          have hE : ((p : Int) == (m : Int)) = true := by rw [hpm]; exact beq_self_eq_true _
          subst hpm
          go_wp2_with fail
          refine (show Calls _ _ _ _ _ from HDn.out).mono ?_
          rintro e w5 ⟨rfl, rfl⟩
          go_wp2_with fail
          refine (awake_c wr).mono ?_
          rintro e w6 ⟨rfl, f⟩
          have F := Lib.hid (HF.out.then_ f fun _ _ h => h)
          clear f
          go_wp2_with fail
          go_ret
          exact ⟨rfl, F.out⟩
        · rw [done_lt HB.out hp hpm] at HDn
          have HDn := Lib.hid HDn
          have hE : ((p : Int) == (m : Int)) = false := by rw [beq_eq_false_iff_ne]; omega
          go_wp2_with fail
          refine (show Calls _ _ _ _ _ from HDn.out).mono ?_
          rintro e w5 ⟨rfl, rfl⟩
          go_wp2_with fail
          refine (awake_c wr).mono ?_
          rintro e w6 ⟨rfl, f⟩
          have F := Lib.hid (HF.out.then_ f fun _ _ h => h)
          clear f
          go_wp2_with fail
          go_ret
          exact ⟨rfl, F.out⟩

set_option maxRecDepth 40000 in
set_option maxHeartbeats 800000 in
theorem wireReads_out (w : World) (a0 : Option Addr) (cap0 : Nat) (n : Nat) (a : Option Addr) (cap : Nat) (l : List It) (hm : l.length ≤ maxLen) (hi : Items w a l) (hn : n ≤ maxLen) (h : 2000 < n ∨ smallB l = false) :
    Calls Try.prog 4 #[.slice a0 n cap0, .slice a l.length cap] w fun e w' => e = .returned (.bool true) ∧ Fr No w w' := by
  have CS := small_c a cap l w hm hi
  have CS := Lib.hid CS
  unfold maxLen at hm hn
  obtain ⟨len, hlen⟩ : ∃ len, l.length = len := ⟨_, rfl⟩
  rw [hlen] at CS hm ⊢
  clear hlen hi
  by_cases h1 : 2000 < n
  · go_enter Try.func4, Try.ntmps4
    go_wp2_with fail
    refine (awake_c w).mono ?_
    rintro e w6 ⟨rfl, f⟩
    have F := Lib.hid f
    clear f
    go_wp2_with fail
    go_ret
    exact ⟨rfl, F.out⟩
  · have hs : smallB l = false := h.elim (fun h => absurd h h1) id
    rw [hs] at CS
    clear hs h
    go_enter Try.func4, Try.ntmps4
    go_wp2_with fail
    refine (show Calls _ _ _ _ _ from CS.out).mono ?_
    rintro e w1 ⟨rfl, f1⟩
    have F1 := Lib.hid f1
    clear f1 CS
    go_wp2_with fail
    refine (awake_c w1).mono ?_
    rintro e w6 ⟨rfl, f⟩
    have F := Lib.hid (F1.out.then_ f fun _ _ h => h)
    clear f
    go_wp2_with fail
    go_ret
    exact ⟨rfl, F.out⟩

theorem wireReads_walk (w : World) (a0 : Option Addr) (c0 : Nat) (bs : List UInt8) (hc0 : bs.length ≤ c0) (hm0 : c0 ≤ maxLen) (rd0 : Rd w a0 bs) (a1 : Option Addr) (c1 : Nat) (l : List It) (hc1 : l.length ≤ c1) (hm1 : c1 ≤ maxLen) (rd1 : Items w a1 l) :
    Calls Try.prog 4 #[.slice a0 bs.length c0, .slice a1 l.length c1] w fun e w' => e = .returned (.bool true) ∧ Below w.heap.size w w' := by
  refine Calls.mono (R := fun e w' => e = .returned (.bool true) ∧ Fr No w w') ?_ fun e w' ⟨he, hf⟩ => ⟨he, hf.below (Nat.le_refl _) fun k h => h.elim⟩
  by_cases h : 2000 < bs.length
  · exact wireReads_out w a0 c0 _ a1 c1 l (by omega) rd1 (by omega) (.inl h)
  · cases hs : smallB l with
    | false => exact wireReads_out w a0 c0 _ a1 c1 l (by omega) rd1 (by omega) (.inr hs)
    | true => exact wireReads_go w a0 c0 bs (by omega) hc0 hm0 rd0 a1 c1 l (by omega) hs rd1
end Go.Proofs.Ytpjfdhgkclnagaa
