/-
  Layer 6, the program's own: contracts of cmp.isNaN, Less and Compare at numbers, and of Check and checkAll.
-/
import Derived.Test.YtkcgdmhggndhfaaMgX
import Derived.BigQuiet
namespace Go.Proofs.Ytkcgdmhggndhfaa
set_option linter.unusedVariables false
open Go.RowKit

theorem isNaN_c (k : Int) (w : World) : Calls Try.prog 47 #[.int .i64 k] w fun e w' => e = .returned (.bool false) ∧ w = w' := by
  go_enter Try.func47, Try.ntmps47
  have d : (k == k) = true := by simp
  go_wp2_with fail
  go_ret
  exact ⟨by simp, rfl⟩
theorem less_c (a b : Int) (w : World) : Calls Try.prog 32 #[.int .i64 a, .int .i64 b] w fun e w' => e = .returned (.bool (decide (a < b))) ∧ w = w' := by
  go_enter Try.func32, Try.ntmps32
  go_wp2_with (go_at_call 47; refine (isNaN_c _ _).mono ?_; rintro e w1 ⟨rfl, rfl⟩)
  go_ret
  exact ⟨by simp, rfl⟩
def cmpI (a b : Int) : Int := if a < b then -1 else if b < a then 1 else 0
theorem compare_c (a b : Int) (w : World) : Calls Try.prog 36 #[.int .i64 a, .int .i64 b] w fun e w' => e = .returned (.int .i64 (cmpI a b)) ∧ w = w' := by
  unfold cmpI
  go_enter Try.func36, Try.ntmps36
  rcases Int.lt_trichotomy a b with h | h | h
  · have d1 : decide (a < b) = true := by simpa using h
    rw [if_pos h]
    clear h
    go_wp2_with (go_at_call 47; refine (isNaN_c _ _).mono ?_; rintro e w1 ⟨rfl, rfl⟩)
    go_ret
    exact ⟨rfl, rfl⟩
  · subst h
    have d1 : decide (a < a) = false := by simp
    rw [if_neg (by omega), if_neg (by omega)]
    go_wp2_with (go_at_call 47; refine (isNaN_c _ _).mono ?_; rintro e w1 ⟨rfl, rfl⟩)
    go_ret
    exact ⟨rfl, rfl⟩
  · have d1 : decide (a < b) = false := by rw [decide_eq_false_iff_not]; omega
    have d2 : decide (b < a) = true := by simpa using h
    rw [if_neg (by omega), if_pos h]
    clear h
    go_wp2_with (go_at_call 47; refine (isNaN_c _ _).mono ?_; rintro e w1 ⟨rfl, rfl⟩)
    go_ret
    exact ⟨rfl, rfl⟩
theorem less_q (a b : Int) (w : World) (n : Nat) : Calls Try.prog 32 #[.int .i64 a, .int .i64 b] (w.drewN n) fun e w' => e = .returned (.bool (decide (a < b))) ∧ ∃ m, w' = w.drewN m :=
  Calls.quiet_of_same ((less_c a b _).mono fun _ _ h => ⟨h.1, h.2.symm⟩)
theorem compare_q (a b : Int) (w : World) (n : Nat) : Calls Try.prog 36 #[.int .i64 a, .int .i64 b] (w.drewN n) fun e w' => e = .returned (.int .i64 (cmpI a b)) ∧ ∃ m, w' = w.drewN m :=
  Calls.quiet_of_same ((compare_c a b _).mono fun _ _ h => ⟨h.1, h.2.symm⟩)
theorem runP_no' {l : List P2} (j : Nat) (h0 : 0 < j) (hj : j < l.length) (h : decide ((l.getD (j - 1) p20).1 < (l.getD j p20).1) = false) : runP l = false :=
  runP_no j h0 hj (by rw [decide_eq_false_iff_not] at h; rw [decide_eq_true_eq]; omega)
theorem runP_yes' {l : List P2} (h : ∀ t, 0 < t → t < l.length → decide ((l.getD (t - 1) p20).1 < (l.getD t p20).1) = true) : runP l = true :=
  runP_yes fun t h0 ht => by have := h t h0 ht; rw [decide_eq_true_eq] at this; rw [decide_eq_false_iff_not]; omega
set_option maxRecDepth 20000 in
set_option maxHeartbeats 800000 in
theorem check_c (S : Nat → Prop) (a : Option Addr) (cap : Nat) (l : List P2) (w : World) (hl : l.length ≤ 1000000) (hr : InP w S a l) :
    Calls Try.prog 13 #[.slice a l.length cap] w fun e w' => e = .returned (.int .i64 (okN (runP l))) ∧ Fr No w w' := by
  have HC := Lib.hid hr
  have HY := Lib.hid (fun j h0 (hj : j < l.length) h => runP_no' (l := l) j h0 hj h)
  have HN := Lib.hid (fun h => runP_yes' (l := l) h)
  clear hr
  unfold InP at HC
  generalize runP l = R at *
  generalize l.length = n at *
  go_enter Try.func13, Try.ntmps13
  go_wp2_with fail
  go_loopw [3] (fun i wr => ∃ j : Nat, i = .int .i64 j ∧ 1 ≤ j ∧ j ≤ n + 1 ∧ Fr No w wr ∧ ∀ t, 0 < t → t < j → t < n → decide ((l.getD (t - 1) p20).1 < (l.getD t p20).1) = true) (fun i _ => n + 1 - (intOf i).toNat)
  case atStart => exact ⟨1, rfl, by omega, by omega, Fr.refl _ _, fun t h h2 => absurd h2 (by omega)⟩
  case round =>
    obtain ⟨j, rfl, hj0, hj, hfr, hall⟩ := hrel
    have HA := Lib.hid hall
    have HF := Lib.hid hfr
    clear hall hfr
    by_cases h1 : j < n
    · have d1 : decide ((j : Int) < (n : Int)) = true := by rw [decide_eq_true_eq]; omega
      obtain ⟨g, o, _, rfl, hx⟩ := HC.out (by omega)
      obtain ⟨i, rfl⟩ : ∃ i, j = i + 1 := ⟨j - 1, by omega⟩
      have q0 := HF.out.cell (hx (i + 1) h1).1 (fun h => h)
      have q1 := HF.out.cell (hx i (by omega)).1 (fun h => h)
      clear hx
      have e1 : ((i + 1 : Nat) : Int) = (i : Int) + 1 := by omega
      cases hb : decide ((l.getD i p20).1 < (l.getD (i + 1) p20).1) with
      | false =>
        have HR := Lib.hid (HY.out (i + 1) (by omega) h1 hb)
        generalize (l.getD (i + 1) p20).1 = x at *
        generalize (l.getD i p20).1 = y at *
        go_wp2_with fail
        go_quiet (exact less_q _ _ _ _)
        go_wp2_with fail
        go_ret
        exact ⟨by rw [HR.out]; rfl, HF.out.drewN _⟩
      | true =>
        have HA2 : Hid (∀ t, 0 < t → t < i + 2 → t < n → decide ((l.getD (t - 1) p20).1 < (l.getD t p20).1) = true) := Lib.hid fun t h0 ht hn => by
          rcases Nat.lt_or_ge t (i + 1) with h | h
          · exact HA.out t h0 h hn
          · obtain rfl : t = i + 1 := by omega
            exact hb
        generalize (l.getD (i + 1) p20).1 = x at *
        generalize (l.getD i p20).1 = y at *
        go_wp2_with fail
        go_quiet (exact less_q _ _ _ _)
        go_wp2_with fail
        go_roundw
        case rel => exact ⟨i + 2, by simp; omega, by omega, by omega, HF.out.drewN _, HA2.out⟩
        case measure => simp [intOf]; omega
    · have d1 : decide ((j : Int) < (n : Int)) = false := by rw [decide_eq_false_iff_not]; omega
      have HR := Lib.hid (HN.out (fun t h0 ht => HA.out t h0 (by omega) ht))
      go_wp2_with fail
      go_ret
      exact ⟨by rw [HR.out]; rfl, HF.out⟩
/-- How many runs at the beginning are right. -/
theorem runsR_no {rs : List Rn} {j : Nat} {x : Rn} (hx : rs[j]? = some x) (h : runP x.l = false) : runsR rs = false := by
  unfold runsR
  rw [List.all_eq_false]
  exact ⟨x, List.mem_of_getElem? hx, by simp [h]⟩
theorem runsR_yes {rs : List Rn} (h : ∀ (t : Nat) (x : Rn), rs[t]? = some x → runP x.l = true) : runsR rs = true := by
  unfold runsR
  rw [List.all_eq_true]
  intro x hx
  obtain ⟨i, hi, rfl⟩ := List.getElem_of_mem hx
  exact h i _ (List.getElem?_eq_getElem hi)
set_option maxRecDepth 20000 in
set_option maxHeartbeats 800000 in
theorem checkAll_c (S : Nat → Prop) (a : Option Addr) (cap : Nat) (rs : List Rn) (w : World) (hl : rs.length ≤ 1000) (h100 : ∀ x ∈ rs, x.l.length ≤ 1000) (hr : InR w S a rs) :
    Calls Try.prog 30 #[.slice a rs.length cap] w fun e w' => e = .returned (.int .i64 (okN (runsR rs))) ∧ Fr No w w' := by
  have HC := Lib.hid hr
  have HY := Lib.hid (fun (j : Nat) (x : Rn) (hx : rs[j]? = some x) h => runsR_no hx h)
  have HN := Lib.hid (fun h => runsR_yes (rs := rs) h)
  have HSZ := Lib.hid h100
  clear hr h100
  unfold InR at HC
  generalize runsR rs = R at *
  obtain ⟨n, hn⟩ : ∃ n, rs.length = n := ⟨_, rfl⟩
  rw [hn] at HC hl
  rw [hn]
  have HLN := Lib.hid hn
  clear hn
  go_enter Try.func30, Try.ntmps30
  go_wp2_with fail
  go_loopw [8] (fun i wr => ∃ j : Nat, i = .int .i64 j ∧ j ≤ n ∧ Fr No w wr ∧ ∀ (t : Nat) (x : Rn), t < j → rs[t]? = some x → runP x.l = true) (fun i _ => n - (intOf i).toNat)
  case atStart => exact ⟨0, rfl, by omega, Fr.refl _ _, fun t x h => absurd h (by omega)⟩
  case round =>
    obtain ⟨j, rfl, hj, hfr, hall⟩ := hrel
    have HA := Lib.hid hall
    have HF := Lib.hid hfr
    clear hall hfr
    by_cases h1 : j < n
    · have d1 : decide ((j : Int) < (n : Int)) = true := by rw [decide_eq_true_eq]; omega
      obtain ⟨g, o, _, rfl, hx⟩ := HC.out (by omega)
      obtain ⟨x, hx0⟩ : ∃ x, rs[j]? = some x := ⟨_, List.getElem?_eq_getElem (by rw [HLN.out]; exact h1)⟩
      have hxj := hx j x hx0
      have HCK := Lib.hid (check_c _ x.a x.c x.l wr (by have := HSZ.out x (List.mem_of_getElem? hx0); omega) (hxj.rd.keep HF.out (fun _ _ h => h)))
      have q0 := HF.out.cell hxj.c0 (fun h => h)
      have HX0 := Lib.hid hx0
      clear hx hxj hx0
      obtain ⟨m, hm0⟩ : ∃ m, x.l.length = m := ⟨_, rfl⟩
      obtain ⟨xa, hxa⟩ : ∃ m, x.a = m := ⟨_, rfl⟩
      obtain ⟨xc, hxc⟩ : ∃ m, x.c = m := ⟨_, rfl⟩
      rw [hm0, hxa, hxc] at q0 HCK
      clear hm0 hxa hxc
      cases hb : runP x.l with
      | false =>
        rw [hb] at HCK
        have HR := Lib.hid (HY.out j x HX0.out hb)
        clear hb
        have HCK2 : Hid (Calls Try.prog 13 #[.slice xa m xc] wr fun e w' => e = .returned (.int .i64 31) ∧ Fr No wr w') := HCK
        clear HCK
        go_wp2_with fail
        refine HCK2.out.mono ?_
        rintro e w1 ⟨rfl, f1⟩
        have HF1 := Lib.hid (HF.out.trans f1)
        clear f1
        go_wp2_with fail
        go_ret
        exact ⟨by rw [HR.out]; rfl, HF1.out⟩
      | true =>
        rw [hb] at HCK
        have HA2 : Hid (∀ (t : Nat) (x : Rn), t < j + 1 → rs[t]? = some x → runP x.l = true) := Lib.hid fun t y ht hy => by
          rcases Nat.lt_or_ge t j with h | h
          · exact HA.out t y h hy
          · obtain rfl : t = j := by omega
            obtain rfl : x = y := Option.some.inj (HX0.out.symm.trans hy)
            exact hb
        clear hb
        have HCK2 : Hid (Calls Try.prog 13 #[.slice xa m xc] wr fun e w' => e = .returned (.int .i64 0) ∧ Fr No wr w') := HCK
        clear HCK
        go_wp2_with fail
        refine HCK2.out.mono ?_
        rintro e w1 ⟨rfl, f1⟩
        have HF1 := Lib.hid (HF.out.trans f1)
        clear f1
        go_wp2_with fail
        go_roundw
        case rel => exact ⟨j + 1, by simp, by omega, HF1.out, HA2.out⟩
        case measure => simp [intOf]; omega
    · have d1 : decide ((j : Int) < (n : Int)) = false := by rw [decide_eq_false_iff_not]; omega
      have HR := Lib.hid (HN.out (fun t x ht => HA.out t x (by rw [List.getElem?_eq_some_iff] at ht; obtain ⟨h, _⟩ := ht; rw [HLN.out] at h; omega) ht))
      go_wp2_with fail
      go_ret
      exact ⟨by rw [HR.out]; rfl, HF.out⟩
end Go.Proofs.Ytkcgdmhggndhfaa
