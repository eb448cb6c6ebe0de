/-
  Layer 6: several runs in memory; contracts of the laws' small, items, same, and the document's Runs.
-/
import Derived.Test.YtkcgdmhggndhfaaMgB
namespace Go.Proofs.Ytkcgdmhggndhfaa
set_option linter.unusedVariables false
open Go.RowKit

/-- A run in memory. -/
structure Rn where
  a : Option Addr
  c : Nat
  l : List P2
structure RnAt (w : World) (S : Nat → Prop) (b o : Nat) (x : Rn) : Prop where
  c0 : w.cell? ⟨b, o, none⟩ = some (.slice x.a x.l.length x.c)
  le : x.l.length ≤ x.c
  cm : x.c ≤ maxLen
  rd : InP w S x.a x.l
def InR (w : World) (S : Nat → Prop) (a : Option Addr) (rs : List Rn) : Prop := 0 < rs.length → ∃ b o, S b ∧ a = some ⟨b, o, none⟩ ∧ ∀ i x, rs[i]? = some x → RnAt w S b (o + i) x
theorem InR.keep {w w' : World} {S T : Nat → Prop} {a : Option Addr} {rs : List Rn} (h : InR w S a rs) (f : Fr T w w') (hn : ∀ k, S k → ¬ T k) : InR w' S a rs := fun hl => by
  obtain ⟨b, o, hb, ha, hx⟩ := h hl
  exact ⟨b, o, hb, ha, fun i x hi => ⟨f.cell (hx i x hi).c0 (hn b hb), (hx i x hi).le, (hx i x hi).cm, (hx i x hi).rd.keep f hn⟩⟩
def lens (rs : List Rn) : List (List P2) := rs.map (·.l)
def smallR (rs : List Rn) : Bool := rs.all (fun r => decide (r.l.length ≤ 40)) && decide (rs.length ≤ 10)
theorem smallR_no {rs : List Rn} {j : Nat} {x : Rn} (hx : rs[j]? = some x) (h : 40 < x.l.length) : smallR rs = false := by
  unfold smallR
  have : rs.all (fun r => decide (r.l.length ≤ 40)) = false := by
    rw [List.all_eq_false]
    exact ⟨x, List.mem_of_getElem? hx, by simp; omega⟩
  rw [this, Bool.false_and]
theorem smallR_all {rs : List Rn} (h : ∀ (t : Nat) (x : Rn), rs[t]? = some x → x.l.length ≤ 40) : smallR rs = decide (rs.length ≤ 10) := by
  unfold smallR
  have : rs.all (fun r => decide (r.l.length ≤ 40)) = true := by
    rw [List.all_eq_true]
    intro x hx
    obtain ⟨i, hi, rfl⟩ := List.getElem_of_mem hx
    exact decide_eq_true (h i _ (List.getElem?_eq_getElem hi))
  rw [this, Bool.true_and]
theorem smallR_le {rs : List Rn} (h : smallR rs = true) : rs.length ≤ 10 ∧ ∀ x ∈ rs, x.l.length ≤ 40 := by
  unfold smallR at h
  rw [Bool.and_eq_true, decide_eq_true_eq, List.all_eq_true] at h
  exact ⟨h.2, fun x hx => of_decide_eq_true (h.1 x hx)⟩
set_option maxRecDepth 20000 in
set_option maxHeartbeats 800000 in
theorem small_c (S : Nat → Prop) (a : Option Addr) (cap : Nat) (rs : List Rn) (w : World) (hc : rs.length ≤ cap) (hm : cap ≤ maxLen) (hr : InR w S a rs) :
    Calls Try.prog 9 #[.slice a rs.length cap] w fun e w' => e = .returned (.bool (smallR rs)) ∧ w = w' := by
  have HC := Lib.hid hr
  have HNO := Lib.hid (fun j x hx h => smallR_no (rs := rs) (j := j) (x := x) hx h)
  have HALL := Lib.hid (fun h => smallR_all (rs := rs) h)
  clear hr
  unfold InR at HC
  unfold maxLen at hm
  generalize smallR rs = R at *
  obtain ⟨n, hn⟩ : ∃ n, rs.length = n := ⟨_, rfl⟩
  rw [hn] at hc HC HALL
  rw [hn]
  have HN := Lib.hid hn
  clear hn
  go_enter Try.func9, Try.ntmps9
  go_wp2_with fail
  go_loopw [7] (fun i wr => ∃ j : Nat, i = .int .i64 j ∧ j ≤ n ∧ w = wr ∧ ∀ (t : Nat) (x : Rn), t < j → rs[t]? = some x → x.l.length ≤ 40) (fun i _ => n - (intOf i).toNat)
  case atStart => exact ⟨0, rfl, Nat.zero_le _, rfl, fun t x h => absurd h (Nat.not_lt_zero t)⟩
  case round =>
    obtain ⟨j, rfl, hj, rfl, hall⟩ := hrel
    have HA := Lib.hid hall
    clear hall
    by_cases h1 : j < n
    · have d1 : decide ((j : Int) < (n : Int)) = true := by rw [decide_eq_true_eq]; omega
      obtain ⟨b, o, _, rfl, hx⟩ := HC.out (by omega)
      obtain ⟨x, hx0⟩ : ∃ x, rs[j]? = some x := ⟨_, List.getElem?_eq_getElem (by rw [HN.out]; exact h1)⟩
      have q0 := (hx j x hx0).c0
      have HX0 := Lib.hid hx0
      obtain ⟨xa, xc, xl⟩ := x
      simp only at q0
      obtain ⟨m, hm0⟩ : ∃ m, xl.length = m := ⟨_, rfl⟩
      rw [hm0] at q0
      have HM := Lib.hid hm0
      clear hx hx0 hm0
      by_cases h2 : 40 < m
      · have d2 : decide ((40 : Int) < (m : Int)) = true := by rw [decide_eq_true_eq]; omega
        have HR := Lib.hid (HNO.out j _ HX0.out (by show 40 < xl.length; rw [HM.out]; exact h2))
        go_wp2_with fail
        go_ret
        exact ⟨by rw [HR.out]; rfl, rfl⟩
      · have d2 : decide ((40 : Int) < (m : Int)) = false := by rw [decide_eq_false_iff_not]; omega
        go_wp2_with fail
        go_roundw
        case rel =>
          refine ⟨j + 1, by simp, by omega, by simp, fun t x ht hx => ?_⟩
          rcases Nat.lt_or_ge t j with h | h
          · exact HA.out t x h hx
          · obtain rfl : t = j := by omega
            rw [HX0.out] at hx
            obtain rfl := Option.some.inj hx
            show xl.length ≤ 40
            rw [HM.out]
            omega
        case measure => simp [intOf]; omega
    · obtain rfl : j = n := by omega
      have d1 : decide ((j : Int) < (j : Int)) = false := by simp
      have HR := Lib.hid (HALL.out (fun t x hx => HA.out t x (by
        rcases Nat.lt_or_ge t j with h | h
        · exact h
        · rw [List.getElem?_eq_none (by rw [HN.out]; exact h)] at hx; cases hx) hx))
      go_wp2_with fail
      go_ret
      refine ⟨?_, rfl⟩
      rw [HR.out]
      have : decide ((j : Int) ≤ 10) = decide (j ≤ 10) := by
        by_cases h : j ≤ 10
        · rw [decide_eq_true h, decide_eq_true (by omega)]
        · rw [decide_eq_false h, decide_eq_false (by omega)]
      rw [← this]
      rfl
/-- Are all of them runs? -/
def runsR (rs : List Rn) : Bool := rs.all fun r => runP r.l
set_option maxRecDepth 20000 in
set_option maxHeartbeats 800000 in
theorem refRuns_c (S : Nat → Prop) (a : Option Addr) (cap : Nat) (rs : List Rn) (w : World) (hc : rs.length ≤ cap) (hm : cap ≤ maxLen) (hs : ∀ x ∈ rs, x.l.length ≤ 100000) (hr : InR w S a rs) :
    Calls Try.prog 16 #[.slice a rs.length cap] w fun e w' => e = .returned (.bool (runsR rs)) ∧ Fr No w w' := by
  have HC := Lib.hid hr
  have HS := Lib.hid hs
  have HNO : Hid (∀ (j : Nat) (x : Rn), rs[j]? = some x → runP x.l = false → runsR rs = false) := Lib.hid fun j x hx h => by
    unfold runsR
    rw [List.all_eq_false]
    exact ⟨x, List.mem_of_getElem? hx, by rw [h]; exact Bool.false_ne_true⟩
  have HALL : Hid ((∀ (t : Nat) (x : Rn), rs[t]? = some x → runP x.l = true) → runsR rs = true) := Lib.hid fun h => by
    unfold runsR
    rw [List.all_eq_true]
    intro x hx
    obtain ⟨i, hi, rfl⟩ := List.getElem_of_mem hx
    exact h i _ (List.getElem?_eq_getElem hi)
  clear hr hs
  unfold InR at HC
  unfold maxLen at hm
  generalize runsR rs = R at *
  obtain ⟨n, hn⟩ : ∃ n, rs.length = n := ⟨_, rfl⟩
  rw [hn] at hc HC
  rw [hn]
  have HN := Lib.hid hn
  clear hn
  go_enter Try.func16, Try.ntmps16
  go_wp2_with fail
  go_loopw [3] (fun i wr => ∃ j : Nat, i = .int .i64 j ∧ j ≤ n ∧ Fr No w wr ∧ ∀ (t : Nat) (x : Rn), t < j → rs[t]? = some x → runP x.l = true) (fun i _ => n - (intOf i).toNat)
  case atStart => exact ⟨0, rfl, Nat.zero_le _, Fr.refl _ _, fun t x h => absurd h (Nat.not_lt_zero t)⟩
  case round =>
    obtain ⟨j, rfl, hj, hfr, hall⟩ := hrel
    have HA := Lib.hid hall
    have HF := Lib.hid hfr
    clear hall hfr
    by_cases h1 : j < n
    · have d1 : decide ((j : Int) < (n : Int)) = true := by rw [decide_eq_true_eq]; omega
      obtain ⟨b, o, _, rfl, hx⟩ := HC.out (by omega)
      obtain ⟨x, hx0⟩ : ∃ x, rs[j]? = some x := ⟨_, List.getElem?_eq_getElem (by rw [HN.out]; exact h1)⟩
      have q0 := HF.out.cell (hx j x hx0).c0 (fun h => h)
      have HX0 := Lib.hid hx0
      have HRUN := Lib.hid (refRun_c S x.a x.c x.l wr (HS.out x (List.mem_of_getElem? hx0)) ((hx j x hx0).rd.keep HF.out (fun _ _ h => h)))
      obtain ⟨m, hm0⟩ : ∃ m, x.l.length = m := ⟨_, rfl⟩
      obtain ⟨xa, hxa⟩ : ∃ m, x.a = m := ⟨_, rfl⟩
      obtain ⟨xc, hxc⟩ : ∃ m, x.c = m := ⟨_, rfl⟩
      rw [hm0, hxa, hxc] at q0 HRUN
      clear hx hx0 hm0 hxa hxc
      cases hb : runP x.l with
      | false =>
        rw [hb] at HRUN
        have HR := Lib.hid (HNO.out j _ HX0.out hb)
        clear hb
        go_wp2_with fail
        refine HRUN.out.mono ?_
        rintro e w2 ⟨rfl, f2⟩
        have HF2 := Lib.hid (HF.out.trans f2)
        clear f2
        go_wp2_with fail
        go_ret
        exact ⟨by rw [HR.out]; rfl, HF2.out⟩
      | true =>
        rw [hb] at HRUN
        have HB := Lib.hid hb
        clear hb
        go_wp2_with fail
        refine HRUN.out.mono ?_
        rintro e w2 ⟨rfl, f2⟩
        have HF2 := Lib.hid (HF.out.trans f2)
        clear f2 q0
        go_wp2_with fail
        go_roundw
        case rel =>
          refine ⟨j + 1, by simp, by omega, HF2.out, fun t y ht hy => ?_⟩
          rcases Nat.lt_or_ge t j with h | h
          · exact HA.out t y h hy
          · obtain rfl : t = j := by omega
            rw [HX0.out] at hy
            obtain rfl := Option.some.inj hy
            exact HB.out
        case measure => simp [intOf]; omega
    · obtain rfl : j = n := by omega
      have d1 : decide ((j : Int) < (j : Int)) = false := by simp
      have HR := Lib.hid (HALL.out (fun t x hx => HA.out t x (by
        rcases Nat.lt_or_ge t j with h | h
        · exact h
        · rw [List.getElem?_eq_none (by rw [HN.out]; exact h)] at hx; cases hx) hx))
      go_wp2_with fail
      go_ret
      exact ⟨by rw [HR.out]; rfl, HF.out⟩
theorem rowMI : RowT Try.prog 27 49 (.agg #[.int .i64 0, .int .i64 0]) 2 16 := ⟨Try.underlying27, by kernel_rfl, rfl, by decide⟩
theorem take_p2 (l : List P2) (j : Nat) (h : j < l.length) : l.take (j + 1) = l.take j ++ [((l.getD j p20).1, (l.getD j p20).2)] := by
  rw [getD_of_lt l j h, List.take_add_one, List.getElem?_eq_getElem h]
  rfl
set_option maxRecDepth 20000 in
set_option maxHeartbeats 800000 in
theorem items_c (S : Nat → Prop) (a : Option Addr) (cap : Nat) (l : List P2) (w : World) (hl : l.length ≤ 100000) (hc : l.length ≤ cap) (hm : cap ≤ maxLen) (hr : InP w S a l) :
    Calls Try.prog 19 #[.slice a l.length cap] w fun e w' => ∃ u, e = .returned u ∧ PairsV w.heap.size l u w' ∧ Fr No w w' := by
  unfold maxLen at hm
  have HC := Lib.hid hr
  have HT := Lib.hid (take_p2 l)
  have HPUSH := Lib.hid (push_pair rowMI w)
  have HFIN : Hid (∀ w' u o, RowG w' (Gr No w w') 49 2 u o.length (p2sC o) → o = l → PairsV w.heap.size l u w') := Lib.hid fun w' u o h1 h2 => by
    subst h2
    exact h1.pairsV (Nat.le_refl _)
  clear hr
  unfold InP at HC
  obtain ⟨n, hn⟩ : ∃ n, l.length = n := ⟨_, rfl⟩
  rw [hn] at hc hl HC
  rw [hn]
  have HN := Lib.hid hn
  clear hn
  go_enter Try.func19, Try.ntmps19
  go_wp2_with fail
  go_loopw [3, 8] (fun vo i wr => ∃ j : Nat, i = .int .i64 j ∧ j ≤ n ∧ RowG wr (Gr No w wr) 49 2 vo (l.take j).length (p2sC (l.take j)) ∧ Fr No w wr) (fun _ i _ => n - (intOf i).toNat)
  case atStart => exact ⟨0, rfl, Nat.zero_le _, RowG.nil _ _ _ _, Fr.refl _ _⟩
  case round =>
    obtain ⟨j, rfl, hj, hrow, hfr⟩ := hrel
    by_cases h1 : j < n
    · have d1 : decide ((j : Int) < (n : Int)) = true := by rw [decide_eq_true_eq]; omega
      obtain ⟨g, o, _, rfl, hx⟩ := HC.out (by omega)
      have q0 := hfr.cell (hx j h1).1 (fun h => h)
      have q1 := hfr.cell (hx j h1).2 (fun h => h)
      have ht := HT.out j (by rw [HN.out]; exact h1)
      have hlen : (l.take j).length = j := by rw [List.length_take, HN.out]; omega
      have fB := (Fr.refl No wr).alloc (.cells #[.int .i64 (l.getD j p20).1, .int .i64 (l.getD j p20).2] 51)
      have hrow' : RowG (wr.alloc (.cells #[.int .i64 (l.getD j p20).1, .int .i64 (l.getD j p20).2] 51)) (Gr No w (wr.alloc (.cells #[.int .i64 (l.getD j p20).1, .int .i64 (l.getD j p20).2] 51))) 49 2 _ (l.take j).length (p2sC (l.take j)) :=
        (hrow.keep fB (fun _ _ h => h)).sub fun k _ hk => hk.elim (fun h => h.elim) (fun h => .inr ⟨h.1, Nat.lt_of_lt_of_le h.2 fB.size⟩)
      obtain ⟨v1, w1, hrun, hrow1, hfr1⟩ := HPUSH.out _ _ (l.take j) (l.getD j p20).1 (l.getD j p20).2 hrow' (hfr.trans fB) (by rw [hlen]; omega)
      rw [← ht] at hrow1
      generalize (l.getD j p20).1 = x at *
      generalize (l.getD j p20).2 = y at *
      rw [show (wr.alloc (.cells #[.int .i64 x, .int .i64 y] 51)).heap.size = wr.heap.size + 1 by simp] at hrun
      have HRUN := Lib.hid hrun
      have HW := Lib.hid hrow1
      have HF := Lib.hid hfr1
      clear hrow hfr hrun hrow1 hfr1 hrow' fB hx ht hlen
      go_wp2_with (at_builtin; refine wpList_append_run rfl _ _ 27 rfl rfl rfl HRUN.out ?_)
      go_roundw
      case rel => exact ⟨j + 1, by simp, by omega, HW.out, HF.out⟩
      case measure => simp [intOf]; omega
    · obtain rfl : j = n := by omega
      have d1 : decide ((j : Int) < (j : Int)) = false := by simp
      have HR := Lib.hid (HFIN.out wr _ _ hrow (by rw [← HN.out]; exact List.take_length))
      have HF := Lib.hid hfr
      clear hrow hfr
      go_wp2_with fail
      go_ret
      exact ⟨_, rfl, HR.out, HF.out⟩
set_option maxRecDepth 20000 in
set_option maxHeartbeats 800000 in
/-- The same pairs here and there. -/
theorem same_yes (S T : Nat → Prop) (a a' : Option Addr) (cap cap' : Nat) (l : List P2) (w : World) (hl : l.length ≤ 100000) (hr : InP w S a l) (hr' : InP w T a' l) :
    Calls Try.prog 15 #[.slice a l.length cap, .slice a' l.length cap'] w fun e w' => e = .returned (.bool true) ∧ Fr No w w' := by
  have HC := Lib.hid hr
  have HC' := Lib.hid hr'
  clear hr hr'
  unfold InP at HC HC'
  generalize l.length = n at *
  have d0 : ((n : Int) == (n : Int)) = true := by simp
  go_enter Try.func15, Try.ntmps15
  go_wp2_with fail
  go_loopw [13] (fun i wr => ∃ j : Nat, i = .int .i64 j ∧ j ≤ n ∧ Fr No w wr) (fun i _ => n - (intOf i).toNat)
  case atStart => exact ⟨0, rfl, Nat.zero_le _, Fr.refl _ _⟩
  case round =>
    obtain ⟨j, rfl, hj, hfr⟩ := hrel
    have HF := Lib.hid hfr
    clear hfr
    by_cases h1 : j < n
    · have d1 : decide ((j : Int) < (n : Int)) = true := by rw [decide_eq_true_eq]; omega
      obtain ⟨g, o, _, rfl, hx⟩ := HC.out (by omega)
      obtain ⟨g', o', _, rfl, hx'⟩ := HC'.out (by omega)
      have q0 := HF.out.cell (hx j h1).1 (fun h => h)
      have q1 := HF.out.cell (hx j h1).2 (fun h => h)
      have r0 := HF.out.cell (hx' j h1).1 (fun h => h)
      have r1 := HF.out.cell (hx' j h1).2 (fun h => h)
      clear hx hx'
      generalize (l.getD j p20).1 = x at *
      generalize (l.getD j p20).2 = y at *
      have d2 : (x == x) = true := by simp
      have d3 : (y == y) = true := by simp
      go_wp2_with fail
      go_region
      go_wp2_with fail
      go_roundw
      case rel => exact ⟨j + 1, by simp, by omega, HF.out.drew⟩
      case measure => simp [intOf]; omega
    · obtain rfl : j = n := by omega
      have d1 : decide ((j : Int) < (j : Int)) = false := by simp
      go_wp2_with fail
      go_ret
      exact ⟨rfl, HF.out⟩
end Go.Proofs.Ytkcgdmhggndhfaa
