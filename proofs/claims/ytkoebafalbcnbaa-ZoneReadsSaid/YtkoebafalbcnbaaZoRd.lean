/-
  Layer 7: the walk of ZoneReads, over the contracts of a device.
-/
import Derived.Test.YtkoebafalbcnbaaZoD
namespace Go.Proofs.Ytkoebafalbcnbaa
set_option linter.unusedVariables false
open Go.RowKit

theorem sizeU8 (w : World) : (sizeOf 5).run Try.prog w = .ok 1 w := size_one cellsU8 (by
  obtain ⟨i0, hi, _, hz1, _⟩ := info_parts infoU8
  exact ⟨i0, hi, hz1⟩) w
/-- A device of one zone of 2000 bytes, to which these were appended. -/
structure OneI (m : Dev) (al : List UInt8) : Prop where
  ln : m.zs.length = 1
  sz : m.size = 2000
  op : m.opn = 1
  am : m.arm = none
  dn : m.down = false
  b : (zoneM m 0).b = al
  s : (zoneM m 0).s = 2 ↔ al.length = 2000
theorem one_new : OneI (newM 1 2000 1) [] := ⟨rfl, rfl, rfl, rfl, rfl, rfl, by constructor <;> intro h <;> revert h <;> decide⟩
theorem one_has {m : Dev} {al : List UInt8} (h : OneI m al) : hasZ m 0 = true := by
  unfold hasZ
  rw [h.ln]
  rfl
theorem one_opened {m : Dev} {al : List UInt8} (h : OneI m al) (h0 : (zoneM m 0).s = 0) : opened m = 0 := by
  have := h.ln
  unfold opened zoneM at *
  match e : m.zs, this with
  | [x], _ =>
    rw [e] at h0
    have h0 : x.s = 0 := h0
    simp [h0]
theorem one_err {m : Dev} {al : List UInt8} (h : OneI m al) (b : List UInt8) (hl : al.length ≤ 2000) : (appErr m 0 b = 0 ↔ al.length ≠ 2000 ∧ b.length + al.length ≤ 2000) := by
  unfold appErr
  rw [h.dn, if_neg (by simp), one_has h, if_neg (by simp), h.op, h.sz, h.b]
  by_cases h2 : (zoneM m 0).s = 2
  · rw [if_pos (by simp [h2])]
    have := h.s.1 h2
    constructor
    · intro h; omega
    · intro h; omega
  · have h3 : al.length ≠ 2000 := fun e => h2 (h.s.2 e)
    rw [if_neg (by simpa using h2)]
    have h4 : ((zoneM m 0).s == 0 && decide (1 ≤ opened m)) = false := by
      by_cases h5 : (zoneM m 0).s = 0
      · rw [one_opened h h5]; simp
      · rw [show ((zoneM m 0).s == 0) = false by rw [beq_eq_false_iff_ne]; exact h5]; rfl
    rw [h4, if_neg (by simp)]
    by_cases h6 : 2000 < al.length + b.length
    · rw [if_pos (by simpa using h6)]
      constructor
      · intro h; omega
      · intro h; omega
    · rw [if_neg (by simpa using h6)]
      constructor
      · intro _; exact ⟨h3, by omega⟩
      · intro _; rfl
theorem one_step {m : Dev} {al : List UInt8} (h : OneI m al) (b : List UInt8) (hl : al.length ≤ 2000) : ((cmdR m (appErr m 0 b) == 0) = (decide (al.length ≠ 2000) && decide (b.length + al.length ≤ 2000))) ∧ (appErr m 0 b = 0 → OneI (appM m 0 b) (al ++ b)) ∧ (¬ appErr m 0 b = 0 → appM m 0 b = m) ∧ (appM m 0 b).done ≤ m.done + 1 := by
  have he := one_err h b hl
  have hc : cmdM m = true := by unfold cmdM; rw [h.am]
  refine ⟨?_, fun h0 => ?_, fun h0 => by unfold appM; rw [if_neg h0], ?_⟩
  · unfold cmdR
    by_cases h0 : appErr m 0 b = 0
    · obtain ⟨h1, h2⟩ := he.1 h0
      rw [if_pos h0, hc, if_pos rfl, decide_eq_true h1, decide_eq_true h2]
      rfl
    · rw [if_neg h0, show (appErr m 0 b == 0) = false by rw [beq_eq_false_iff_ne]; exact h0]
      symm
      rw [Bool.and_eq_false_iff, decide_eq_false_iff_not, decide_eq_false_iff_not]
      by_cases h1 : al.length ≠ 2000
      · exact .inr fun h2 => h0 (he.2 ⟨h1, h2⟩)
      · exact .inl h1
  · have e : appM m 0 b = { m with zs := m.zs.set 0 (appZ m 0 b), done := m.done + 1 } := by
      unfold appM
      rw [if_pos h0]
      unfold powM
      have : (setZ m 0 (appZ m 0 b)).arm = none := h.am
      rw [this]
      unfold setZ
      rw [h.am]
      rfl
    have hz : zoneM (appM m 0 b) 0 = appZ m 0 b := by
      rw [e]
      unfold zoneM
      have := h.ln
      match e2 : m.zs, this with
      | [x], _ => rfl
    rw [e] at hz
    rw [e]
    refine ⟨by rw [← h.ln]; simp, h.sz, h.op, h.am, h.dn, by rw [hz]; show (zoneM m 0).b ++ b = _; rw [h.b], ?_⟩
    rw [hz, List.length_append]
    show (if (zoneM m 0).b.length + b.length = m.size then 2 else 1) = 2 ↔ _
    rw [h.b, h.sz]
    split
    · rename_i h7
      exact ⟨fun _ => h7, fun _ => rfl⟩
    · rename_i h7
      exact ⟨fun h => absurd h (by decide), fun h => absurd h h7⟩
  · unfold appM
    split
    · unfold powM
      have : (setZ m 0 (appZ m 0 b)).arm = none := h.am
      rw [this]
      exact Nat.le_refl _
    · exact Nat.le_succ _
theorem one_rdE {m : Dev} {al : List UInt8} (h : OneI m al) (t n : Int) : rdErr m 0 t n = if t < 0 ∨ n < 0 ∨ (al.length : Int) < t + n then 70 else 0 := by
  unfold rdErr
  rw [h.dn, if_neg (by simp), one_has h, if_neg (by simp), h.b]
  by_cases h1 : t < 0 ∨ n < 0 ∨ (al.length : Int) < t + n
  · rw [if_pos h1, if_pos]
    rw [Bool.or_eq_true, Bool.or_eq_true, decide_eq_true_eq, decide_eq_true_eq, decide_eq_true_eq]
    omega
  · rw [if_neg h1, if_neg]
    rw [Bool.or_eq_true, Bool.or_eq_true, decide_eq_true_eq, decide_eq_true_eq, decide_eq_true_eq]
    omega
theorem one_rdB {m : Dev} {al : List UInt8} (h : OneI m al) (t n : Int) : rdB m 0 t n = if t < 0 ∨ n < 0 ∨ (al.length : Int) < t + n then [] else (al.drop t.toNat).take n.toNat := by
  unfold rdB
  rw [one_rdE h, h.b]
  by_cases h1 : t < 0 ∨ n < 0 ∨ (al.length : Int) < t + n
  · rw [if_pos h1, if_neg (by omega), if_pos h1]
  · rw [if_neg h1, if_pos rfl, if_neg h1]
theorem one_ptr {m : Dev} {al : List UInt8} (h : OneI m al) : ptrM m 0 = (al.length : Int) := by
  unfold ptrM
  rw [one_has h, if_pos rfl, h.b]
section
variable {D : World → Nat → (Nat → Prop) → Dev → Prop}
theorem OwnZ.keepT (M : ZoneOK D) {w0 w w' : World} {d : Nat} {F T : Nat → Prop} {m : Dev} (h : OwnZ D w0 w d F m) (f : Fr T w w') (h1 : ∀ k, F k → ¬ T k) (h2 : ∀ k, T k → w0.heap.size ≤ k) : OwnZ D w0 w' d F m :=
  ⟨M.keep h.dv f h1, h.new, h.fr.then_ f fun x hx hT => absurd (h2 x hT) (by omega), h.wf⟩
/-- Bytes of the call's own, beside a device. -/
structure Bes (w0 w : World) (F : Nat → Prop) (v : Value) (al : List UInt8) (T : Nat → Prop) : Prop where
  row : Row w T v al
  lo : ∀ k, T k → w0.heap.size ≤ k
  hi : ∀ k, T k → k < w.heap.size
  ap : ∀ k, T k → ¬ F k
set_option maxRecDepth 20000 in
set_option maxHeartbeats 16000000 in
theorem zoneReads_walk (M : ZoneOK D) (W : World) (a : Option Addr) (cap : Nat) (l : List Tx) (hc : l.length ≤ cap) (hm : cap ≤ maxLen) (rd : Texts W a l) (t : Int) (wt : wf64 t) (n : Int) (wn : wf64 n) :
    Calls Try.prog 5 #[.slice a l.length cap, .int .i64 t, .int .i64 n] W fun e w' => e = .returned (.bool true) ∧ Below W.heap.size W w' := by
  have HM := Lib.hid M
  have HWT := Lib.hid (And.intro wt wn)
  have HRD := Lib.hid rd
  have HNEW := Lib.hid (newZ M 1 2000 1 W (by decide) (by decide) (by decide) W (Fr.refl _ _))
  have fin : ∀ w' : World, Fr No W w' → Below W.heap.size W w' := fun w' f => f.below (Nat.le_refl _) (fun _ h => h.elim)
  have FIN := Lib.hid fin
  unfold maxLen at hm
  obtain ⟨N, hN⟩ : ∃ N, l.length = N := ⟨_, rfl⟩
  rw [hN] at hc
  rw [hN]
  have HN := Lib.hid hN
  have ht := wf_out wt
  have hn := wf_out wn
  have HTB := Lib.hid ht
  have HNB := Lib.hid hn
  clear fin rd wt wn hN ht hn
  go_enter Try.func5, Try.ntmps5
  go_wp2_with fail
  refine HNEW.out.mono ?_
  rintro e w1 ⟨_, ⟨h1, _⟩ | ⟨_, d, F1, rfl, h1, _⟩⟩
  · exact absurd h1 (by decide)
  have he : ∀ w : World, (binOp .eql 25 (.pointer (some ⟨d, 0, none⟩)) (.pointer none)).run Try.prog w = .ok (.bool false) w := fun _ => rfl
  have he2 : ∀ w : World, (binOp .neq 25 (.pointer (some ⟨d, 0, none⟩)) (.pointer none)).run Try.prog w = .ok (.bool true) w := fun _ => rfl
  have H1 : Hid (OwnZ D W w1 d F1 (newM 1 2000 1)) := Lib.hid h1
  clear h1 HNEW
  by_cases hbig : 30 < N
  · have d1 : decide ((30 : Int) < (N : Int)) = true := by rw [decide_eq_true_eq]; omega
    go_wp2_with fail
    refine (awake_c HM.out _).mono ?_
    rintro e w3 ⟨rfl, f3⟩
    have HF3 := Lib.hid (H1.out.fr.trans f3)
    clear f3
    go_wp2_with fail
    go_ret
    exact ⟨rfl, FIN.out _ HF3.out⟩
  have d1 : decide ((30 : Int) < (N : Int)) = false := by rw [decide_eq_false_iff_not]; omega
  go_wp2_with fail
  clear d1
  go_loopw [8, 31] (fun va i wr => ∃ (j : Nat) (F T : Nat → Prop) (m : Dev) (al : List UInt8), i = .int .i64 j ∧ j ≤ N ∧ OwnZ D W wr d F m ∧ OneI m al ∧ Bes W wr F va al T ∧ al.length ≤ 2000 ∧ m.done ≤ j) (fun _ i _ => N - (intOf i).toNat)
  case atStart => exact ⟨0, F1, No, _, [], rfl, Nat.zero_le _, H1.out, one_new, ⟨Row.nil _ _, fun _ h => h.elim, fun _ h => h.elim, fun _ h => h.elim⟩, Nat.zero_le _, Nat.le_refl _⟩
  case round =>
    clear H1
    obtain ⟨j, F, T, m, al, rfl, hj, hown, hone, hbes, hal, hdone⟩ := hrel
    have HO := Lib.hid hown
    have HON := Lib.hid hone
    have HB := Lib.hid hbes
    obtain ⟨aa, ac, rfl, hal1, hac, hain⟩ := hbes.row.form
    have HIN := Lib.hid hain
    clear hown hone hbes hain
    unfold maxLen at hac
    obtain ⟨A, hA⟩ : ∃ A, al.length = A := ⟨_, rfl⟩
    rw [hA] at hal hal1 HB
    rw [hA]
    have HA := Lib.hid hA
    clear hA
    by_cases h1 : j < N
    · have d1 : decide ((j : Int) < (N : Int)) = true := by rw [decide_eq_true_eq]; omega
      obtain ⟨b, o, rfl, hx⟩ := HRD.out (by rw [HN.out]; omega)
      obtain ⟨x, hx0⟩ : ∃ x, l[j]? = some x := ⟨_, List.getElem?_eq_getElem (by rw [HN.out]; exact h1)⟩
      have hxj := (hx j x hx0).keep HO.out.fr
      have HX := Lib.hid (hx j x hx0)
      have q0 := hxj.c0
      clear hx hx0 hxj
      obtain ⟨xa, xc, xb⟩ := x
      simp only at q0
      obtain ⟨bn, hbn⟩ : ∃ m, xb.length = m := ⟨_, rfl⟩
      rw [hbn] at q0
      have HBN := Lib.hid hbn
      clear hbn
      by_cases h3 : 300 < bn
      · have d2 : decide ((300 : Int) < (bn : Int)) = true := by rw [decide_eq_true_eq]; omega
        go_wp2_with fail
        refine (awake_c HM.out _).mono ?_
        rintro e w3 ⟨rfl, f3⟩
        have HF3 := Lib.hid (HO.out.fr.trans f3)
        clear f3
        go_wp2_with fail
        go_ret
        exact ⟨rfl, FIN.out _ HF3.out⟩
      have d2 : decide ((300 : Int) < (bn : Int)) = false := by rw [decide_eq_false_iff_not]; omega
      have HAP := Lib.hid (HO.out.append HM.out (by omega) (z := 0) (by decide) (a := xa) (c := xc) (b := xb) (by rw [HBN.out]; omega) HX.out.le HX.out.cm HX.out.rd)
      have HST := Lib.hid (one_step HON.out xb (by rw [HA.out]; exact hal))
      rw [HBN.out] at HAP
      by_cases h0 : appErr m 0 xb = 0
      · obtain ⟨hA0, hAB⟩ := (one_err HON.out xb (by rw [HA.out]; exact hal)).1 h0
        rw [HA.out] at hA0 hAB
        rw [HBN.out] at hAB
        have HON2 := Lib.hid (HST.out.2.1 h0)
        have HD2 : Hid ((appM m 0 xb).done ≤ j + 1) := Lib.hid (Nat.le_trans HST.out.2.2.2 (by omega))
        have hE : cmdR m (appErr m 0 xb) = 0 := by
          unfold cmdR cmdM
          rw [if_pos h0, HON.out.am]
          rfl
        rw [hE] at HAP
        clear hE h0
        generalize appM m 0 xb = m6 at *
        have dA : ((A : Int) == 2000) = false := by rw [beq_eq_false_iff_ne]; omega
        have dB : decide ((bn : Int) ≤ 2000 - (A : Int)) = true := by rw [decide_eq_true_eq]; omega
        go_wp2_with fail
        refine HAP.out.mono ?_
        rintro e w6 ⟨rfl, F6, hO6, hF6, f6⟩
        have hrow6 := HB.out.row.keep f6 (fun k hk hf => HB.out.ap k hk hf)
        obtain ⟨v7, w7, hrun, hrow7, f7⟩ := hrow6.append xa bn xc xb HBN.out (HX.out.rd.keep hO6.fr) (by rw [HA.out]; omega)
        have HRUN := Lib.hid hrun
        have hT6 : ∀ k, T k → ¬ F6 k := fun k hk hf => (hF6 k hf).elim (HB.out.ap k hk) (fun h => absurd (HB.out.hi k hk) (by omega))
        have hsz6 := hO6.fr.size
        have HO7 := Lib.hid (hO6.keepT HM.out f7 (fun k hf hk => hT6 k hk hf) HB.out.lo)
        have HB7 : Hid (Bes W w7 F6 v7 (al ++ xb) (Gr T w6 w7)) := Lib.hid ⟨hrow7, fun k hk => hk.elim (HB.out.lo k) (fun h => Nat.le_trans hsz6 h.1), fun k hk => hk.elim (fun h => Nat.lt_of_lt_of_le (HB.out.hi k h) (Nat.le_trans f6.size f7.size)) (fun h => h.2), fun k hk => hk.elim (hT6 k) (fun h => hO6.low HM.out k h.1)⟩
        clear hrow6 hrun hrow7 f7 hT6 hsz6 hO6 hF6 f6 HAP
        go_wp2_with (at_builtin; refine wpList_append_run rfl _ _ 31 rfl rfl rfl HRUN.out ?_)
        go_roundw
        case rel => exact ⟨j + 1, F6, _, m6, al ++ xb, by simp, by omega, HO7.out, HON2.out, HB7.out, by rw [List.length_append, HA.out, HBN.out]; omega, HD2.out⟩
        case measure => simp [intOf]; omega
      · have hno : ¬ (A ≠ 2000 ∧ bn + A ≤ 2000) := fun h => h0 ((one_err HON.out xb (by rw [HA.out]; exact hal)).2 (by rw [HA.out, HBN.out]; exact h))
        have hE : cmdR m (appErr m 0 xb) = appErr m 0 xb := by unfold cmdR; rw [if_neg h0]
        rw [hE, HST.out.2.2.1 h0] at HAP
        have dE : (appErr m 0 xb == 0) = false := by rw [beq_eq_false_iff_ne]; exact h0
        clear hE h0 HST
        generalize appErr m 0 xb = E at *
        by_cases hf : A = 2000
        · have dA : ((A : Int) == 2000) = true := by rw [beq_iff_eq]; omega
          clear hno hf
          go_wp2_with fail
          refine HAP.out.mono ?_
          rintro e w6 ⟨rfl, F6, hO6, hF6, f6⟩
          have HO7 := Lib.hid hO6
          have HB7 : Hid (Bes W w6 F6 (.slice aa A ac) al T) := Lib.hid ⟨HB.out.row.keep f6 (fun k hk hf => HB.out.ap k hk hf), HB.out.lo, fun k hk => Nat.lt_of_lt_of_le (HB.out.hi k hk) f6.size, fun k hk hf => (hF6 k hf).elim (HB.out.ap k hk) (fun h => absurd (HB.out.hi k hk) (by omega))⟩
          clear hO6 hF6 f6 HAP
          go_wp2_with fail
          go_roundw
          case rel => exact ⟨j + 1, F6, T, m, al, by simp, by omega, HO7.out, HON.out, HB7.out, by rw [HA.out]; exact hal, by omega⟩
          case measure => simp [intOf]; omega
        · have dA : ((A : Int) == 2000) = false := by rw [beq_eq_false_iff_ne]; omega
          have dB : decide ((bn : Int) ≤ 2000 - (A : Int)) = false := by rw [decide_eq_false_iff_not]; omega
          clear hno hf
          go_wp2_with fail
          refine HAP.out.mono ?_
          rintro e w6 ⟨rfl, F6, hO6, hF6, f6⟩
          have HO7 := Lib.hid hO6
          have HB7 : Hid (Bes W w6 F6 (.slice aa A ac) al T) := Lib.hid ⟨HB.out.row.keep f6 (fun k hk hf => HB.out.ap k hk hf), HB.out.lo, fun k hk => Nat.lt_of_lt_of_le (HB.out.hi k hk) f6.size, fun k hk hf => (hF6 k hf).elim (HB.out.ap k hk) (fun h => absurd (HB.out.hi k hk) (by omega))⟩
          clear hO6 hF6 f6 HAP
          go_wp2_with fail
          go_roundw
          case rel => exact ⟨j + 1, F6, T, m, al, by simp, by omega, HO7.out, HON.out, HB7.out, by rw [HA.out]; exact hal, by omega⟩
          case measure => simp [intOf]; omega
    · obtain rfl : j = N := by omega
      have d1 : decide ((j : Int) < (j : Int)) = false := by simp
      have HRD2 := Lib.hid (HO.out.read HM.out (z := 0) (t := t) (n := n) (by decide) HWT.out.1 HWT.out.2)
      rw [one_rdE HON.out, one_rdB HON.out, HA.out] at HRD2
      have ht := HTB.out
      have hn := HNB.out
      by_cases hbad : t < 0 ∨ n < 0 ∨ (A : Int) < t + n
      · rw [if_pos hbad, if_pos hbad] at HRD2
        have HRD3 : Hid (Calls Try.prog 18 #[.pointer (some ⟨d, 0, none⟩), .int .i64 0, .int .i64 t, .int .i64 n] wr fun e w' => ∃ a c, e = .returned (.tuple #[.slice a 0 c, .int .i64 70]) ∧ Fr No W w') := Lib.hid (HRD2.out.mono fun e w' ⟨a, c, h1, _, _, _, h2, _⟩ => ⟨a, c, h1, h2.fr⟩)
        clear HRD2
        by_cases b1 : t < 0
        · have d2 : decide (t < 0) = true := decide_eq_true b1
          clear hbad b1 ht hn
          go_wp2_with fail
          refine HRD3.out.mono ?_
          rintro e w5 ⟨ra, rc, rfl, f5⟩
          have HF5 := Lib.hid f5
          clear f5
          go_wp2_with fail
          refine (awake_c HM.out _).mono ?_
          rintro e w6 ⟨rfl, f6⟩
          have HF6 := Lib.hid (HF5.out.trans f6)
          clear f6
          go_wp2_with fail
          go_ret
          exact ⟨rfl, FIN.out _ HF6.out⟩
        have d2 : decide (t < 0) = false := decide_eq_false b1
        by_cases b2 : n < 0
        · have d3 : decide (n < 0) = true := decide_eq_true b2
          clear hbad b1 b2 ht hn
          go_wp2_with fail
          refine HRD3.out.mono ?_
          rintro e w5 ⟨ra, rc, rfl, f5⟩
          have HF5 := Lib.hid f5
          clear f5
          go_wp2_with fail
          refine (awake_c HM.out _).mono ?_
          rintro e w6 ⟨rfl, f6⟩
          have HF6 := Lib.hid (HF5.out.trans f6)
          clear f6
          go_wp2_with fail
          go_ret
          exact ⟨rfl, FIN.out _ HF6.out⟩
        have d3 : decide (n < 0) = false := decide_eq_false b2
        by_cases b3 : (A : Int) < t
        · have d4 : decide ((A : Int) < t) = true := decide_eq_true b3
          clear hbad b1 b2 b3 ht hn
          go_wp2_with fail
          refine HRD3.out.mono ?_
          rintro e w5 ⟨ra, rc, rfl, f5⟩
          have HF5 := Lib.hid f5
          clear f5
          go_wp2_with fail
          refine (awake_c HM.out _).mono ?_
          rintro e w6 ⟨rfl, f6⟩
          have HF6 := Lib.hid (HF5.out.trans f6)
          clear f6
          go_wp2_with fail
          go_ret
          exact ⟨rfl, FIN.out _ HF6.out⟩
        have d4 : decide ((A : Int) < t) = false := decide_eq_false b3
        have d5 : decide ((A : Int) - t < n) = true := by rw [decide_eq_true_eq]; omega
        clear hbad
        go_wp2_with fail
        refine HRD3.out.mono ?_
        rintro e w5 ⟨ra, rc, rfl, f5⟩
        have HF5 := Lib.hid f5
        clear f5
        go_wp2_with fail
        refine (awake_c HM.out _).mono ?_
        rintro e w6 ⟨rfl, f6⟩
        have HF6 := Lib.hid (HF5.out.trans f6)
        clear f6
        go_wp2_with fail
        go_ret
        exact ⟨rfl, FIN.out _ HF6.out⟩
      · rw [if_neg hbad, if_neg hbad] at HRD2
        obtain ⟨p, rfl⟩ : ∃ p : Nat, t = (p : Int) := ⟨t.toNat, by omega⟩
        obtain ⟨q, rfl⟩ : ∃ q : Nat, n = (q : Int) := ⟨n.toNat, by omega⟩
        have hpq : p + q ≤ A := by omega
        rw [show ((p : Int)).toNat = p by omega, show ((q : Int)).toNat = q by omega] at HRD2
        have hq : ((al.drop p).take q).length = q := by
          rw [List.length_take, List.length_drop, HA.out]
          omega
        rw [hq] at HRD2
        have HQ := Lib.hid hq
        have HCUT := cut_both (P := Try.prog) Try.underlying31 sizeU8 aa A ac p (p + q) (by omega) (by omega)
        rw [show ((p + q : Nat) : Int) = (p : Int) + (q : Int) by omega, show p + q - p = q by omega] at HCUT
        have HPT : Hid (∀ w, OwnZ D W w d F m → Calls Try.prog 12 #[.pointer (some ⟨d, 0, none⟩), .int .i64 0] w (ToldZ D W w d F m (.int .i64 (A : Int)))) := Lib.hid fun w h => by
          have := h.pointer HM.out (z := 0) (by decide)
          rwa [one_ptr HON.out, HA.out] at this
        have d2 : decide ((p : Int) < 0) = false := by rw [decide_eq_false_iff_not]; omega
        have d3 : decide ((q : Int) < 0) = false := by rw [decide_eq_false_iff_not]; omega
        have d4 : decide ((A : Int) < (p : Int)) = false := by rw [decide_eq_false_iff_not]; omega
        have d5 : decide ((A : Int) - (p : Int) < (q : Int)) = false := by rw [decide_eq_false_iff_not]; omega
        clear hbad hq ht hn
        go_wp2_with fail
        refine HRD2.out.mono ?_
        rintro e w5 ⟨ra, rc, rfl, _, _, hin, hO5, f5⟩
        have HO5 := Lib.hid hO5
        have HSA := Lib.hid (same_yes (a := ra) (a' := cutAt aa p ac) (len := q) (cap := rc) (len' := q) (cap' := ac - p) (w := w5) HQ.out HQ.out hin.rd ((((HIN.out.keep f5 (fun _ _ h => h)).drop p ac (by rw [HA.out]; exact hal1)).take q).rd) rfl)
        clear hin hO5 f5 HRD2
        go_wp2_with fail
        refine HSA.out.mono ?_
        rintro e w6 ⟨rfl, rfl⟩
        go_wp2_with fail
        refine (HPT.out _ HO5.out).mono ?_
        rintro e w7 ⟨rfl, hO7, _⟩
        have HO7 := Lib.hid hO7
        clear hO7
        have dz : ((A : Int) == (A : Int)) = true := by simp
        go_wp2_with fail
        refine (awake_c HM.out _).mono ?_
        rintro e w8 ⟨rfl, f8⟩
        have HF8 := Lib.hid (HO7.out.fr.trans f8)
        clear f8
        go_wp2_with fail
        go_ret
        exact ⟨rfl, FIN.out _ HF8.out⟩
end
end Go.Proofs.Ytkoebafalbcnbaa
