/-
  Layer 5: the contract of the document's Put.
-/
import Derived.Test.YtdnaebbfbkdjoaaSkB
namespace Go.Proofs.Ytdnaebbfbkdjoaa
set_option linter.unusedVariables false
open Go.RowKit

theorem rowPair : RowT Try.prog 28 41 (.agg #[.int .i64 0, .int .i64 0, .int .i64 0]) 3 24 := ⟨Try.underlying28, by kernel_rfl, rfl, by decide⟩
theorem prsC_set (l : List Pr) : ∀ i v, i < l.length → prsC (l.set i { l.getD i pr0 with v := v }) = (prsC l).set (i * 3 + 1) (i64 v) := by
  induction l with
  | nil => intro i v h; simp at h
  | cons p l ih =>
    intro i v h
    have hl : (prC p).length = 3 := rfl
    cases i with
    | zero => rfl
    | succ i =>
      have e := ih i v (by simpa using h)
      show prC p ++ prsC (l.set i { l.getD i pr0 with v := v }) = (prC p ++ prsC l).set ((i + 1) * 3 + 1) (i64 v)
      rw [e, List.set_append_right _ _ (by omega), show (i + 1) * 3 + 1 - (prC p).length = i * 3 + 1 by omega]
/-- What a round of Put does: what is out so far, and whether the new pair is among it. -/
def insStep (n : Pr) (s : List Pr × Bool) (x : Pr) : List Pr × Bool := if !s.2 && decide (n.k < x.k) then (s.1 ++ [n] ++ [x], true) else (s.1 ++ [x], s.2)
def insTo (n : Pr) (l : List Pr) (i : Nat) : List Pr × Bool := (l.take i).foldl (insStep n) ([], false)
def insL (n : Pr) (l : List Pr) : List Pr := if (insTo n l l.length).2 then (insTo n l l.length).1 else (insTo n l l.length).1 ++ [n]
theorem insTo_succ (n : Pr) (l : List Pr) (i : Nat) (h : i < l.length) : insTo n l (i + 1) = insStep n (insTo n l i) (l.getD i pr0) := by
  unfold insTo
  rw [List.take_add_one, List.foldl_append]
  simp [List.getD, h]
theorem insTo_le (n : Pr) (l : List Pr) : ∀ i, (insTo n l i).1.length ≤ 2 * i := by
  intro i
  induction i with
  | zero => simp [insTo]
  | succ i ih =>
    rcases Nat.lt_or_ge i l.length with h | h
    · rw [insTo_succ n l i h]
      unfold insStep
      split <;> simp <;> omega
    · have e : insTo n l (i + 1) = insTo n l i := by
        unfold insTo
        rw [List.take_of_length_le (by omega), List.take_of_length_le h]
      rw [e]
      omega
/-- A key that is put. -/
def putL (l : List Pr) (n : Pr) : List Pr := if 0 ≤ findI l n.k then l.set (findI l n.k).toNat { l.getD (findI l n.k).toNat pr0 with v := n.v } else insL n l
def freshL (l : List Pr) (k : Int) : Bool := !decide (0 ≤ findI l k)
theorem firstAt_lt (p : Pr → Bool) : ∀ (l : List Pr) (i : Nat), firstAt p l i < (i + l.length : Nat) := by
  intro l
  induction l with
  | nil => intro i; simp only [firstAt, List.length_nil]; omega
  | cons x l ih =>
    intro i
    show (if p x then (i : Int) else firstAt p l (i + 1)) < _
    have h := ih (i + 1)
    rw [List.length_cons]
    split <;> omega
theorem RL.frozen {w : World} {X : Nat → Prop} {b : Nat} {l : List Pr} (h : RL w X b l) : w.frozen? ⟨b, 0, none⟩ = false := by
  obtain ⟨v, h1, _, _⟩ := h.ob
  exact h1.frozen 0
set_option maxRecDepth 20000 in
set_option maxHeartbeats 1600000 in
theorem refPut_c (X : Nat → Prop) (b : Nat) (l : List Pr) (k v h : Int) (w : World) (hr : RL w X b l) (hn : l.length ≤ 10000) (hX : ∀ x, X x → x < w.heap.size) :
    Calls Try.prog 12 #[.pointer (some ⟨b, 0, none⟩), .int .i64 k, .int .i64 v, .int .i64 h] w fun e w' => e = .returned (.bool (freshL l k)) ∧ RL w' (Gr X w w') b (putL l ⟨k, v, h⟩) ∧ Fr X w w' := by
  have CF := Lib.hid (refFind_c X b l k w hr)
  obtain ⟨a, cap, c0, f0, hc1, hc2, hcells⟩ := hr.cells
  unfold maxLen at hc2
  have hlt := firstAt_lt (fun x => x.k == k) l 0
  have hlt : findI l k < ((0 + l.length : Nat) : Int) := hlt
  rw [Nat.zero_add] at hlt
  by_cases hf : 0 ≤ findI l k
  · obtain ⟨i, hi⟩ := Int.eq_ofNat_of_zero_le hf
    have hil : i < l.length := by omega
    obtain ⟨g, hg, hgb, rfl, hx⟩ := hcells (by omega)
    obtain ⟨q0, q1, q2, qf⟩ := hx i hil
    have HFIN : Hid (freshL l k = false ∧ RL (w.setCell ⟨g, i * 3 + 1, none⟩ (.int .i64 v)) X b (putL l ⟨k, v, h⟩) ∧ Fr X w (w.setCell ⟨g, i * 3 + 1, none⟩ (.int .i64 v))) := Lib.hid (by
      obtain ⟨vv, h1, h2, h3⟩ := hr.ob
      obtain ⟨a', cap', rfl, _, _, _, hc'⟩ := h2.form
      have c0' := h1.cell 0
      rw [c0] at c0'
      simp at c0'
      obtain ⟨rfl, rfl⟩ := c0'
      obtain ⟨h4, h5⟩ := h2.set_ (g := g) (j := i * 3 + 1) rfl (by omega) (.int .i64 v)
      refine ⟨by unfold freshL; rw [decide_eq_true hf]; rfl, ⟨⟨_, h1.keep ((Fr.refl (One g) w).setCell (p := ⟨g, i * 3 + 1, none⟩) (fun _ => rfl) (.int .i64 v)) (fun e => hgb (Eq.symm e)), ?_, h3⟩, hr.xb⟩, h5⟩
      have e : putL l ⟨k, v, h⟩ = l.set i { l.getD i pr0 with v := v } := by
        unfold putL
        rw [if_pos hf]
        simp [hi]
      rw [e, prsC_set l i v hil, List.length_set]
      exact h4)
    have HGR := Lib.hid (show ∀ w', Fr X w w' → RL w' X b (putL l ⟨k, v, h⟩) → RL w' (Gr X w w') b (putL l ⟨k, v, h⟩) from fun w' _ h6 => by
      obtain ⟨vv, h1, h2, h3⟩ := h6.ob
      exact ⟨⟨vv, h1, h2.sub (fun _ _ h => .inl h), h3⟩, .inl h6.xb⟩)
    have HI := Lib.hid hi
    clear hcells hx hr hf hX
    generalize l.length = n at *
    go_enter Try.func12, Try.ntmps12
    go_wp2_with fail
    refine (show Calls _ _ _ _ _ from CF.out).mono ?_
    rintro e w1 ⟨rfl, rfl⟩
    rw [HI.out]
    clear hlt hi
    go_wp2_with fail
    go_ret
    exact ⟨congrArg (fun x => Ending.returned (.bool x)) HFIN.out.1.symm, HGR.out _ HFIN.out.2.2 HFIN.out.2.1, HFIN.out.2.2⟩
  · have hfr0 : freshL l k = true := by unfold freshL; rw [decide_eq_false hf]; rfl
    have hput : putL l ⟨k, v, h⟩ = insL ⟨k, v, h⟩ l := by unfold putL; exact if_neg hf
    rw [hfr0, hput]
    have HS := Lib.hid (insTo_succ ⟨k, v, h⟩ l)
    have HLE := Lib.hid (insTo_le ⟨k, v, h⟩ l)
    have HIN : Hid (insL ⟨k, v, h⟩ l = if (insTo ⟨k, v, h⟩ l l.length).2 then (insTo ⟨k, v, h⟩ l l.length).1 else (insTo ⟨k, v, h⟩ l l.length).1 ++ [⟨k, v, h⟩]) := Lib.hid rfl
    have HR := Lib.hid hr
    have HC := Lib.hid hcells
    have HX := Lib.hid hX
    obtain ⟨m, hm⟩ : ∃ m : Nat, findI l k = -(m : Int) - 1 := ⟨(-(findI l k) - 1).toNat, by omega⟩
    rw [hm] at CF
    -- what is put behind: the shop's way out
    have HFIN := Lib.hid (fun (wr : World) (vo : Value) (o : List Pr) (hrow : RowG wr (Gr No w wr) 41 3 vo o.length (prsC o)) (hfr : Fr No w wr) =>
      show RL (wr.setCell ⟨b, 0, none⟩ vo) (Gr X w (wr.setCell ⟨b, 0, none⟩ vo)) b o ∧ Fr X w (wr.setCell ⟨b, 0, none⟩ vo) from by
        obtain ⟨vv, h1, h2, h3⟩ := hr.ob
        have hb : b < w.heap.size := h1.lt
        have f1 := (Fr.refl (One b) wr).setCell (p := ⟨b, 0, none⟩) (fun _ => rfl) vo
        have hb2 : ∀ x, Gr No w wr x → ¬ One b x := fun x hx e => by
          have : x = b := e
          rcases hx with hx | hx
          · exact hx
          · omega
        have A1 := (h1.keep hfr (fun h => h)).set_ 0 vo
        refine ⟨⟨⟨vo, A1, (hrow.keep f1 hb2).sub (fun x _ hx => hx.elim (fun h => h.elim) (fun h => .inr ⟨h.1, Nat.lt_of_lt_of_le h.2 f1.size⟩)), fun g hg e => hb2 g (hrow.2 g hg) e⟩, .inl hr.xb⟩, (hfr.sub (fun _ _ h => h.elim)).setCell (fun _ => hr.xb) vo⟩)
    have HPUSH := Lib.hid (fun (wr : World) (vo : Value) (o : List Pr) (x y z : Int) (hrow : RowG wr (Gr No w wr) 41 3 vo o.length (prsC o)) (hfr : Fr No w wr) (hl : o.length ≤ 100000) =>
      show ∃ v' w', (Builtin.append_ #[28, 28] 28 #[vo, .slice (some ⟨wr.heap.size, 0, none⟩) 1 1]).run Try.prog (wr.alloc (.cells #[.int .i64 x, .int .i64 y, .int .i64 z] 41)) = .ok v' w' ∧
          RowG w' (Gr No w w') 41 3 v' (o ++ [(⟨x, y, z⟩ : Pr)]).length (prsC (o ++ [⟨x, y, z⟩])) ∧ Fr No w w' from by
        obtain ⟨v', w', h1, h2, h3⟩ := hrow.push rowPair (fun q hq => hq.elim (fun h => h.elim) (fun h => h.2)) (prC ⟨x, y, z⟩) rfl (by intro u hu; simp [prC] at hu; rcases hu with rfl | rfl | rfl <;> rfl) (by omega) (by omega)
        refine ⟨v', w', h1, ?_, hfr.then_ h3 fun q hq h => h.elim (fun h => h) (fun h => absurd hq (by omega))⟩
        rw [List.length_append, prsC_append]
        exact h2.join hfr.size h3.size)
    clear hcells hr hf hX hlt hput hfr0
    obtain ⟨n, hnn⟩ : ∃ n, l.length = n := ⟨_, rfl⟩
    rw [hnn] at hc1 hn c0 HC HIN
    have HNN := Lib.hid hnn
    clear hnn
    go_enter Try.func12, Try.ntmps12
    go_wp2_with fail
    refine (show Calls _ _ _ _ _ from CF.out).mono ?_
    rintro e w1 ⟨rfl, rfl⟩
    have d0 : decide ((0 : Int) ≤ -(m : Int) - 1) = false := decide_eq_false (by omega)
    clear hm
    go_wp2_with fail
    clear d0
    go_loopw [10, 11, 12] (fun vo fl i wr => ∃ j : Nat, i = .int .i64 j ∧ j ≤ n ∧ fl = .bool (insTo ⟨k, v, h⟩ l j).2 ∧ RowG wr (Gr No w wr) 41 3 vo (insTo ⟨k, v, h⟩ l j).1.length (prsC (insTo ⟨k, v, h⟩ l j).1) ∧ Fr No w wr) (fun _ _ i _ => n - (intOf i).toNat)
    case atStart => exact ⟨0, rfl, Nat.zero_le _, rfl, RowG.nil _ _ _ _, Fr.refl _ _⟩
    case round =>
      obtain ⟨j, rfl, hj, rfl, hrow, hfr⟩ := hrel
      have c1 := hfr.cell c0 (fun h => h)
      have hle := HLE.out j
      by_cases h1 : j < n
      · obtain ⟨g, _, _, rfl, hx⟩ := HC.out (by omega)
        obtain ⟨q0, q1, q2, _⟩ := hx j h1
        have q0 := hfr.cell q0 (fun h => h)
        have q1 := hfr.cell q1 (fun h => h)
        have q2 := hfr.cell q2 (fun h => h)
        have hs := HS.out j (by rw [HNN.out]; exact h1)
        clear hx
        generalize insTo ⟨k, v, h⟩ l j = st at *
        obtain ⟨o, fl⟩ := st
        generalize hpx : l.getD j pr0 = px at *
        obtain ⟨x, y, z⟩ := px
        simp only at q0 q1 q2 hrow hle hs
        cases hfl : fl with
        | true =>
          have hs2 : insTo ⟨k, v, h⟩ l (j + 1) = (o ++ [⟨x, y, z⟩], true) := by rw [hs, hfl]; rfl
          obtain ⟨v1, w1, hrun, hrow1, hfr1⟩ := HPUSH.out wr _ o x y z hrow hfr (by omega)
          have HRUN := Lib.hid hrun
          have HS2 := Lib.hid hs2
          have HW := Lib.hid hrow1
          have HF := Lib.hid hfr1
          clear hrow hfr hrun hrow1 hfr1 hs hs2 hle hpx hfl
          go_wp2_with (at_builtin; refine wpList_append_run rfl _ _ 28 rfl rfl rfl HRUN.out ?_)
          go_roundw
          case rel => exact ⟨j + 1, by simp, by omega, by rw [HS2.out], by rw [HS2.out]; exact HW.out, HF.out⟩
          case measure => simp [intOf]; omega
        | false =>
          by_cases hlt : k < x
          · have hs2 : insTo ⟨k, v, h⟩ l (j + 1) = (o ++ [⟨k, v, h⟩] ++ [⟨x, y, z⟩], true) := by
              rw [hs, hfl]
              unfold insStep
              simp [hlt]
            obtain ⟨v1, w1, hrun, hrow1, hfr1⟩ := HPUSH.out wr _ o k v h hrow hfr (by omega)
            have c2 := hfr1.cell c0 (fun h => h)
            have r0 := hfr1.cell ((show Fr No w w from Fr.refl _ _).cell (HC.out (by omega) |>.elim fun g' h' => by
              obtain ⟨_, _, e, hx⟩ := h'
              simp only [Option.some.injEq, Addr.mk.injEq, and_true] at e
              subst e
              have := (hx j h1).1
              rw [hpx] at this
              exact this) (fun h => h)) (fun h => h)
            have r1 := hfr1.cell ((show Fr No w w from Fr.refl _ _).cell (HC.out (by omega) |>.elim fun g' h' => by
              obtain ⟨_, _, e, hx⟩ := h'
              simp only [Option.some.injEq, Addr.mk.injEq, and_true] at e
              subst e
              have := (hx j h1).2.1
              rw [hpx] at this
              exact this) (fun h => h)) (fun h => h)
            have r2 := hfr1.cell ((show Fr No w w from Fr.refl _ _).cell (HC.out (by omega) |>.elim fun g' h' => by
              obtain ⟨_, _, e, hx⟩ := h'
              simp only [Option.some.injEq, Addr.mk.injEq, and_true] at e
              subst e
              have := (hx j h1).2.2.1
              rw [hpx] at this
              exact this) (fun h => h)) (fun h => h)
            obtain ⟨v2, w2, hrun2, hrow2, hfr2⟩ := HPUSH.out w1 v1 (o ++ [⟨k, v, h⟩]) x y z hrow1 hfr1 (by simp; omega)
            have HRUN := Lib.hid hrun
            have HRUN2 := Lib.hid hrun2
            have HS2 := Lib.hid hs2
            have HW := Lib.hid hrow2
            have HF := Lib.hid hfr2
            clear hrow hfr hrun hrow1 hfr1 hs hs2 hle hpx hfl hrun2 hrow2 hfr2
            go_wp2_with (at_builtin; first | refine wpList_append_run rfl _ _ 28 rfl rfl rfl HRUN.out ?_ | refine wpList_append_run rfl _ _ 28 rfl rfl rfl HRUN2.out ?_)
            go_roundw
            case rel => exact ⟨j + 1, by simp, by omega, by rw [HS2.out], by rw [HS2.out]; exact HW.out, HF.out⟩
            case measure => simp [intOf]; omega
          · have hs2 : insTo ⟨k, v, h⟩ l (j + 1) = (o ++ [⟨x, y, z⟩], false) := by
              rw [hs, hfl]
              unfold insStep
              simp [hlt]
            have hd : decide (k < x) = false := decide_eq_false hlt
            obtain ⟨v1, w1, hrun, hrow1, hfr1⟩ := HPUSH.out wr _ o x y z hrow hfr (by omega)
            have HRUN := Lib.hid hrun
            have HS2 := Lib.hid hs2
            have HW := Lib.hid hrow1
            have HF := Lib.hid hfr1
            clear hrow hfr hrun hrow1 hfr1 hs hs2 hle hpx hfl hlt
            go_wp2_with (at_builtin; refine wpList_append_run rfl _ _ 28 rfl rfl rfl HRUN.out ?_)
            go_roundw
            case rel => exact ⟨j + 1, by simp, by omega, by rw [HS2.out], by rw [HS2.out]; exact HW.out, HF.out⟩
            case measure => simp [intOf]; omega
      · have hjn : j = n := by omega
        subst hjn
        have f1 : wr.frozen? ⟨b, 0, none⟩ = false := (hfr.frozen (p := ⟨b, 0, none⟩) (cell_block c0) (fun h => h)).trans f0
        have HIN2 := HIN.out
        generalize insTo ⟨k, v, h⟩ l j = st at *
        obtain ⟨o, fl⟩ := st
        simp only at hrow hle HIN2
        cases hfl : fl with
        | true =>
          rw [hfl] at HIN2
          have HO := Lib.hid (show insL ⟨k, v, h⟩ l = o from HIN2)
          have HE := Lib.hid (HFIN.out wr _ o hrow hfr)
          obtain ⟨sa, sc, hv, _, _⟩ := hrow.form
          clear hrow hfr hle HIN2 hfl HIN
          generalize o.length = on at *
          subst hv
          go_wp2_with fail
          go_ret
          rw [HO.out]
          exact ⟨rfl, HE.out⟩
        | false =>
          rw [hfl] at HIN2
          have HO := Lib.hid (show insL ⟨k, v, h⟩ l = o ++ [⟨k, v, h⟩] from HIN2)
          obtain ⟨v1, w1, hrun, hrow1, hfr1⟩ := HPUSH.out wr _ o k v h hrow hfr (by omega)
          have c2 := hfr1.cell c0 (fun h => h)
          have f2 : w1.frozen? ⟨b, 0, none⟩ = false := (hfr1.frozen (p := ⟨b, 0, none⟩) (cell_block c0) (fun h => h)).trans f0
          have HE := Lib.hid (HFIN.out w1 v1 _ hrow1 hfr1)
          obtain ⟨sa, sc, hv, _, _⟩ := hrow1.form
          have HRUN := Lib.hid hrun
          clear hrow hfr hle HIN2 hfl HIN hrun hrow1 hfr1
          generalize (o ++ [(⟨k, v, h⟩ : Pr)]).length = on at *
          subst hv
          go_wp2_with (at_builtin; refine wpList_append_run rfl _ _ 28 rfl rfl rfl HRUN.out ?_)
          go_ret
          rw [HO.out]
          exact ⟨rfl, HE.out⟩
end Go.Proofs.Ytdnaebbfbkdjoaa
