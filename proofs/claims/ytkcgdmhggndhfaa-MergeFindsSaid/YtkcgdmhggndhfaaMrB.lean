/-
  Layer 6, the program's own: contract of Find (slices.BinarySearchFunc over pairs).
-/
import Derived.Test.YtkcgdmhggndhfaaMrA
namespace Go.Proofs.Ytkcgdmhggndhfaa
set_option linter.unusedVariables false
open Go.RowKit

theorem find1_c (x y k : Int) (w : World) : Calls Try.prog 35 #[.agg #[.int .i64 x, .int .i64 y], .int .i64 k] w fun e w' => e = .returned (.int .i64 (cmpI x k)) ∧ Fr No w w' := by
  have F := Lib.hid ((Fr.refl No w).alloc (.cells #[.int .i64 x, .int .i64 y] 49))
  have b0 : (w.alloc (.cells #[.int .i64 x, .int .i64 y] 49)).cell? ⟨w.heap.size, 0, none⟩ = some (.int .i64 x) := (At.new w 49 #[.int .i64 x, .int .i64 y]).cell 0
  go_enter Try.func35, Try.ntmps35
  go_wp2_with fail
  refine (compare_c _ _ _).mono ?_
  rintro e w1 ⟨rfl, rfl⟩
  go_wp2_with fail
  go_ret
  exact ⟨rfl, F.out⟩
theorem sortP_getD {l : List P2} (h : runP l = true) {i j : Nat} (hij : i < j) (hj : j < l.length) : (l.getD i p20).1 < (l.getD j p20).1 := by
  unfold runP at h
  rw [decide_eq_true_eq, List.pairwise_iff_getElem] at h
  rw [getD_of_lt l i (by omega), getD_of_lt l j hj]
  exact h i j (by omega) hj hij
/-- How far a search in halves has come. -/
def Half (l : List P2) (k : Int) (lo hi : Nat) : Prop := (∀ t, t < lo → (l.getD t p20).1 < k) ∧ (∀ t, hi ≤ t → t < l.length → k ≤ (l.getD t p20).1)
theorem Half.up {l : List P2} {k : Int} {lo hi m : Nat} (h : Half l k lo hi) (hs : runP l = true) (hm : m < l.length) (hk : (l.getD m p20).1 < k) : Half l k (m + 1) hi :=
  ⟨fun t ht => by
    rcases Nat.lt_or_ge t m with h1 | h1
    · have := sortP_getD hs h1 hm
      omega
    · obtain rfl : t = m := by omega
      exact hk, h.2⟩
theorem Half.down {l : List P2} {k : Int} {lo hi m : Nat} (h : Half l k lo hi) (hs : runP l = true) (hm : m < l.length) (hk : k ≤ (l.getD m p20).1) : Half l k lo m :=
  ⟨h.1, fun t ht hl => by
    rcases Nat.lt_or_ge m t with h1 | h1
    · have := sortP_getD hs h1 hl
      omega
    · obtain rfl : t = m := by omega
      exact hk⟩
theorem Half.ceil {l : List P2} {k : Int} {m : Nat} (h : Half l k m m) (hm : m ≤ l.length) : ceilP l k = m := by
  rcases Nat.lt_or_ge m l.length with h1 | h1
  · exact ceilP_yes m h1 (fun t ht => by have := h.1 t ht; rw [decide_eq_false_iff_not]; omega) (by have := h.2 m (Nat.le_refl _) h1; rw [decide_eq_true_eq]; omega)
  · obtain rfl : m = l.length := by omega
    exact ceilP_no fun t ht => by have := h.1 t ht; rw [decide_eq_false_iff_not]; omega
theorem Half.yes {l : List P2} {k : Int} {m : Nat} (h : Half l k m m) (hm : m < l.length) (hs : runP l = true) : hasP l k = decide ((l.getD m p20).1 = k) := by
  by_cases e : (l.getD m p20).1 = k
  · rw [decide_eq_true e]
    exact hasP_yes m hm (by rw [e]; exact beq_self_eq_true k)
  · rw [decide_eq_false e]
    refine hasP_no fun j hj => ?_
    rw [beq_eq_false_iff_ne]
    intro h2
    rcases Nat.lt_trichotomy j m with h3 | h3 | h3
    · have := h.1 j h3
      omega
    · exact e (h3 ▸ h2)
    · have h4 := sortP_getD hs h3 hj
      have := h.2 m (Nat.le_refl _) hm
      omega
theorem Half.no {l : List P2} {k : Int} {m : Nat} (h : Half l k m m) (hm : m = l.length) : hasP l k = false := by
  refine hasP_no fun j hj => ?_
  rw [beq_eq_false_iff_ne]
  have := h.1 j (by omega)
  omega
theorem cmpI_lt {x k : Int} (h : x < k) : cmpI x k = -1 := by unfold cmpI; rw [if_pos h]
theorem cmpI_ge {x k : Int} (h : k ≤ x) : decide (cmpI x k < 0) = false := by
  unfold cmpI
  rw [if_neg (by omega), decide_eq_false_iff_not]
  split <;> omega
theorem cmpI_eq (x k : Int) : (cmpI x k == 0) = decide (x = k) := by
  unfold cmpI
  rcases Int.lt_trichotomy x k with h | h | h
  · rw [if_pos h, decide_eq_false (by omega)]; rfl
  · subst h; simp
  · rw [if_neg (by omega), if_pos h, decide_eq_false (by omega)]; rfl
set_option maxRecDepth 20000 in
set_option maxHeartbeats 1600000 in
theorem search_c (S : Nat → Prop) (a : Option Addr) (cap : Nat) (l : List P2) (k : Int) (w : World) (hl : l.length ≤ 1000000) (hs : runP l = true) (hr : InP w S a l) :
    Calls Try.prog 34 #[.slice a l.length cap, .int .i64 k, .func (.func 35) #[] #[]] w fun e w' => e = .returned (.tuple #[.int .i64 (ceilP l k : Int), .bool (hasP l k)]) ∧ Fr No w w' := by
  have HC := Lib.hid hr
  have HS := Lib.hid hs
  clear hr hs
  unfold InP at HC
  obtain ⟨n, hn⟩ : ∃ n, l.length = n := ⟨_, rfl⟩
  rw [hn] at HC hl
  rw [hn]
  have HLN := Lib.hid hn
  clear hn
  have H0 : Hid (Half l k 0 n) := Lib.hid ⟨fun t h => absurd h (Nat.not_lt_zero _), fun t h1 h2 => absurd h2 (by rw [HLN.out]; omega)⟩
  obtain ⟨R, hR⟩ : ∃ r, (Value.tuple #[.int .i64 (ceilP l k : Int), .bool (hasP l k)]) = r := ⟨_, rfl⟩
  rw [hR]
  have HRR := Lib.hid hR
  clear hR
  go_enter Try.func34, Try.ntmps34
  go_wp2_with fail
  go_loopw [9, 10] (fun s9 s10 wr => ∃ lo hi : Nat, s9 = .int .i64 lo ∧ s10 = .int .i64 hi ∧ lo ≤ hi ∧ hi ≤ n ∧ Fr No w wr ∧ Half l k lo hi) (fun s9 s10 _ => (intOf s10).toNat - (intOf s9).toNat)
  case atStart => exact ⟨0, n, rfl, rfl, Nat.zero_le _, Nat.le_refl _, Fr.refl _ _, H0.out⟩
  case round =>
    clear H0
    obtain ⟨lo, hi, rfl, rfl, hlh, hin, hfr, hh⟩ := hrel
    have HH := Lib.hid hh
    have HF := Lib.hid hfr
    clear hh hfr
    by_cases h1 : lo < hi
    · have d1 : decide ((lo : Int) < (hi : Int)) = true := by rw [decide_eq_true_eq]; omega
      obtain ⟨m, hm⟩ : ∃ m, (lo + hi) / 2 = m := ⟨_, rfl⟩
      have e1 : ((lo : Int) + (hi : Int)) / 2 = (m : Int) := by omega
      have hm1 : lo ≤ m := by omega
      have hm2 : m < hi := by omega
      clear hm
      obtain ⟨g, o, _, rfl, hx⟩ := HC.out (by omega)
      have q0 := HF.out.cell (hx m (by omega)).1 (fun h => h)
      have q1 := HF.out.cell (hx m (by omega)).2 (fun h => h)
      clear hx
      by_cases hk : (l.getD m p20).1 < k
      · have HU := Lib.hid (HH.out.up HS.out (by rw [HLN.out]; omega) hk)
        have d2 := cmpI_lt hk
        generalize (l.getD m p20).1 = x at *
        generalize (l.getD m p20).2 = y at *
        clear hk
        go_wp2_with fail
        refine (find1_c x y k wr).mono ?_
        rintro e w1 ⟨rfl, f1⟩
        have HF1 := Lib.hid (HF.out.trans f1)
        clear f1 q0 q1
        go_wp2_with fail
        go_roundw
        case rel => exact ⟨m + 1, hi, by simp, rfl, by omega, hin, HF1.out, HU.out⟩
        case measure => simp [intOf]; omega
      · have HU := Lib.hid (HH.out.down HS.out (by rw [HLN.out]; omega) (by omega : k ≤ (l.getD m p20).1))
        have d2 := cmpI_ge (x := (l.getD m p20).1) (k := k) (by omega)
        generalize (l.getD m p20).1 = x at *
        generalize (l.getD m p20).2 = y at *
        clear hk
        go_wp2_with fail
        refine (find1_c x y k wr).mono ?_
        rintro e w1 ⟨rfl, f1⟩
        have HF1 := Lib.hid (HF.out.trans f1)
        clear f1 q0 q1
        go_wp2_with fail
        go_roundw
        case rel => exact ⟨lo, m, rfl, rfl, hm1, by omega, HF1.out, HU.out⟩
        case measure => simp [intOf]; omega
    · obtain rfl : hi = lo := by omega
      have d1 : decide ((hi : Int) < (hi : Int)) = false := by simp
      by_cases h2 : hi < n
      · have d2 : decide ((hi : Int) < (n : Int)) = true := by rw [decide_eq_true_eq]; omega
        obtain ⟨g, o, _, rfl, hx⟩ := HC.out (by omega)
        have q0 := HF.out.cell (hx hi (by omega)).1 (fun h => h)
        have q1 := HF.out.cell (hx hi (by omega)).2 (fun h => h)
        clear hx
        have HY := Lib.hid (HH.out.yes (by rw [HLN.out]; exact h2) HS.out)
        generalize (l.getD hi p20).1 = x at *
        generalize (l.getD hi p20).2 = y at *
        obtain ⟨c, hc⟩ : ∃ c, cmpI x k = c := ⟨_, rfl⟩
        have HCC := Lib.hid hc
        clear hc
        go_wp2_with fail
        refine (find1_c x y k wr).mono ?_
        rintro e w1 ⟨rfl, f1⟩
        have HF1 := Lib.hid (HF.out.trans f1)
        clear f1 q0 q1
        rw [HCC.out]
        go_wp2_with fail
        go_ret2
        refine ⟨?_, HF1.out⟩
        rw [← HRR.out, HH.out.ceil (by rw [HLN.out]; exact hin), HY.out, ← HCC.out, cmpI_eq]
        rfl
      · obtain rfl : hi = n := by omega
        have d2 : decide ((hi : Int) < (hi : Int)) = false := by simp
        have HY := Lib.hid (HH.out.no HLN.out.symm)
        go_wp2_with fail
        go_ret2
        refine ⟨?_, HF.out⟩
        rw [← HRR.out, HH.out.ceil (by rw [HLN.out]; exact hin), HY.out]
        rfl
theorem find_c (S : Nat → Prop) (a : Option Addr) (cap : Nat) (l : List P2) (k : Int) (w : World) (hl : l.length ≤ 1000000) (hs : runP l = true) (hr : InP w S a l) :
    Calls Try.prog 18 #[.slice a l.length cap, .int .i64 k] w fun e w' => e = .returned (.tuple #[.int .i64 (ceilP l k : Int), .bool (hasP l k)]) ∧ Fr No w w' := by
  have HSE := Lib.hid (search_c S a cap l k w hl hs hr)
  clear hs hr
  generalize ceilP l k = C at *
  generalize hasP l k = H at *
  generalize l.length = n at *
  go_enter Try.func18, Try.ntmps18
  go_wp2_with fail
  refine HSE.out.mono ?_
  rintro e w1 ⟨rfl, f1⟩
  have HF1 := Lib.hid f1
  clear f1 HSE
  go_wp2_with fail
  go_ret2
  exact ⟨rfl, HF1.out⟩
end Go.Proofs.Ytkcgdmhggndhfaa
