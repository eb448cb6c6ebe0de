/-
  Layer 10: BatchSizes.
-/
import Derived.Test.YtidfjcaajejfoaaBaOw
import Derived.Test.YtidfjcaajejfoaaHeld
import Derived.StillTailTactics
import Derived.Deep.CutRange
namespace Go.Proofs.Ytidfjcaajejfoaa
set_option linter.unusedVariables false
open Go.RowKit

/-- An append whose run is known, in a region that draws. -/
theorem oper_append_run {P : Program} {o : Oper} {a : Act} {w w' : World} {K : Act → World → Prop} {Q : Exit → Act → World → Prop} (s x : Operand) (t : TypeId)
    (ho : o.op = .call { callee := .builtin .append, args := #[s, x], argTypes := #[t, t] }) {v u v' : Value} (hs : a.eval s = v) (hx : a.eval x = u)
    (hr : (Builtin.append_ #[t, t] o.type #[v, u]).run P w = .ok v' w') (h : K (a.put o.dst v') w') : Oper.wp P o a w K Q := by
  unfold Oper.wp
  simp only [execOp, ho, resolve, invoke, builtin, Sem.run_bind, Sem.run_pure, Result.andThen_ok, List.map_toArray, List.map_cons, List.map_nil, hs, hx, hr]
  exact h
theorem rowOpB : RowT Try.prog 22 30 (.agg #[.int .i64 0, .string ⟨#[]⟩, .string ⟨#[]⟩]) 3 40 := ⟨Try.underlying22, by kernel_rfl, rfl, by decide⟩
theorem opsC_cell (l : List Op10) : ∀ u ∈ opsC l, u.oneCell' = true := by
  intro u hu
  unfold opsC at hu
  obtain ⟨x, _, hx⟩ := List.mem_flatMap.1 hu
  simp [opC] at hx
  rcases hx with rfl | rfl | rfl <;> rfl
theorem Ops.cells {w : World} {S : Nat → Prop} {b o : Nat} {l : List Op10} (h : Ops w S (some ⟨b, o, none⟩) l) (j : Nat) (u : Value) (hu : (opsC l)[j]? = some u) : w.cell? ((⟨b, o, none⟩ : Addr).add j) = some u := by
  have hj : j < (opsC l).length := by
    rcases Nat.lt_or_ge j (opsC l).length with h | h
    · exact h
    · rw [List.getElem?_eq_none h] at hu; cases hu
  rw [opsC_length] at hj
  obtain ⟨b', o', _, e, hc⟩ := h (by omega)
  injection e with e
  injection e with e1 e2 e3
  subst e1 e2
  have hi : j / 3 < l.length := by omega
  obtain ⟨c0, c1, c2⟩ := hc (j / 3) hi
  obtain ⟨g0, g1, g2⟩ := opsC_get l (j / 3) hi
  rw [add_at]
  have h3 : j = j / 3 * 3 ∨ j = j / 3 * 3 + 1 ∨ j = j / 3 * 3 + 2 := by omega
  rcases h3 with h3 | h3 | h3
  · rw [h3] at hu; rw [h3, c0, ← g0, hu]
  · rw [h3] at hu; rw [h3, show o + (j / 3 * 3 + 1) = o + j / 3 * 3 + 1 by omega, c1, ← g1, hu]
  · rw [h3] at hu; rw [h3, show o + (j / 3 * 3 + 2) = o + j / 3 * 3 + 2 by omega, c2, ← g2, hu]
/-- Ops that are read are appended to a row of the call's own. -/
theorem RowG.moreO {w : World} {S S' : Nat → Prop} {v : Value} {n : Nat} {l l' : List Op10} (h : RowG w S 30 3 v n (opsC l)) (a : Option Addr) (m c : Nat) (hm : l'.length = m) (hp : 0 < m) (ho : Ops w S' a l') (hb : n + m ≤ 1000000) :
    ∃ v' w', (Builtin.append_ #[22, 22] 22 #[v, .slice a m c]).run Try.prog w = .ok v' w' ∧ RowG w' (Gr S w w') 30 3 v' (n + m) (opsC (l ++ l')) ∧ Fr S w w' := by
  obtain ⟨i0, hi, hz0, hz1, hz2⟩ := info_parts rowOpB.info
  obtain ⟨b, o, _, rfl, _⟩ := ho (by omega)
  obtain ⟨v', w', hrun, h2, h3, _, h5⟩ := run_append_own_at (P := Try.prog) w 0 22 22 30 i0 _ 3 40 rowOpB.und hi hz0 hz1 hz2 rowOpB.zc rowOpB.pos v n (opsC l) h.1
    ⟨b, o, none⟩ m c (opsC l') (by rw [opsC_length, hm]) (fun j u hu => ho.cells j u hu) (opsC_cell l') (by unfold maxLen; omega) (by omega) (Nat.zero_le _)
  have hf3 := Fr.grown h3 h.2
  refine ⟨v', w', hrun, ⟨by rw [opsC_append]; exact h2, fun x hx => ?_⟩, hf3⟩
  rcases h5 with h5 | h5
  · exact .inl (h.2 x (h5 ▸ hx))
  · rw [h5] at hx
    have hk : w.heap.size = x := Option.some.inj hx
    have h6 := (h2.lt x (by rw [h5, hk])).2
    exact .inr ⟨by omega, h6⟩
/-- An empty row, in a block of its own. -/
theorem RowG.none_ {w : World} {g : Nat} (h : At w g 30 #[]) : RowG w (One g) 30 3 (.slice (some ⟨g, 0, none⟩) 0 0) 0 (opsC []) :=
  ⟨⟨rfl, .inr ⟨g, 0, #[], rfl, Nat.zero_le _, h, Nat.le_refl _, Nat.zero_le _, rfl, rfl⟩⟩, fun k hk => (Option.some.inj hk).symm⟩
theorem ops_one {w : World} {g : Nat} {x : Op10} (h : At w g 30 #[.int .i64 x.k, .string x.key, .string x.val]) : Ops w (One g) (some ⟨g, 0, none⟩) [x] := fun _ =>
  ⟨g, 0, rfl, rfl, fun i hi => by
    have : i = 0 := by simpa using hi
    subst this
    exact ⟨h.cell 0, h.cell 1, h.cell 2⟩⟩
/-- A batch's ops, where they are read. -/
structure BtAt (w : World) (a : Option Addr) (n c : Nat) (l : List Op10) : Prop where
  len : l.length = n
  le : n ≤ c
  mx : c ≤ maxLen
  wf : ∀ x ∈ l, OpWf x
  ops : ∃ S, Ops w S a l
theorem BtAt.keep {w w' : World} {a : Option Addr} {n c : Nat} {l : List Op10} (h : BtAt w a n c l) (f : Fr No w w') : BtAt w' a n c l :=
  ⟨h.len, h.le, h.mx, h.wf, h.ops.elim fun S h => ⟨S, h.keep f fun _ _ h => h⟩⟩
theorem RowG.bt {w : World} {S : Nat → Prop} {e : TypeId} {a : Option Addr} {n c : Nat} {l : List Op10} (h : RowG w S e 3 (.slice a n c) n (opsC l)) (hn : l.length = n) (hwf : ∀ x ∈ l, OpWf x) : BtAt w a n c l := by
  subst hn
  obtain ⟨a', cap, e1, h1, h2, h'⟩ := h.ops
  injection e1 with e2 e3 e4
  subst e2 e4
  exact ⟨rfl, h1, h2, hwf, ⟨S, h'⟩⟩
theorem size_bt (H : BatchOK) {q : Int} (wq : (Lit.int .i64 q).wf = true) (a : Option Addr) (n c : Nat) (l : List Op10) (w : World) (h : BtAt w a n c l) :
    Calls Try.prog 17 #[.agg #[.int .i64 q, .slice a n c]] w (Ask (.int .i64 ((bytesO q l).length : Int)) w) := by
  obtain ⟨rfl, h1, h2, h3, S, h4⟩ := h
  exact H.size q a c l w S wq h1 h2 h4 h3
theorem last_bt (H : BatchOK) {q : Int} (wq : (Lit.int .i64 q).wf = true) (a : Option Addr) (n c : Nat) (l : List Op10) (w : World) (h : BtAt w a n c l) :
    Calls Try.prog 18 #[.agg #[.int .i64 q, .slice a n c]] w (Ask (.int .i64 (lastO q l)) w) := by
  obtain ⟨rfl, h1, h2, h3, S, h4⟩ := h
  exact H.last q a c l w S wq h1 h2 h4 h3
theorem check_bt (H : BatchOK) {q : Int} (wq : (Lit.int .i64 q).wf = true) (a : Option Addr) (n c : Nat) (l : List Op10) (w : World) (h : BtAt w a n c l) :
    Calls Try.prog 16 #[.agg #[.int .i64 q, .slice a n c]] w (Ask (errO (allO q l)) w) := by
  obtain ⟨rfl, h1, h2, h3, S, h4⟩ := h
  exact H.check q a c l w S wq h1 h2 h4 h3
/-- A batch and an op in boxes of their own. -/
theorem box_two (w : World) (q : Int) (v : Value) (x : Op10) : ∃ W, (w.alloc (.cells #[.int .i64 q, v] 24)).alloc (.cells #[.int .i64 x.k, .string x.key, .string x.val] 30) = W ∧ Fr No w W ∧
    W.cell? ⟨w.heap.size, 0, none⟩ = some (.int .i64 q) ∧ W.cell? ⟨w.heap.size, 1, none⟩ = some v ∧ W.cell? ⟨w.heap.size + 1, 0, none⟩ = some (.int .i64 x.k) ∧ W.cell? ⟨w.heap.size + 1, 1, none⟩ = some (.string x.key) ∧ W.cell? ⟨w.heap.size + 1, 2, none⟩ = some (.string x.val) := by
  obtain ⟨W1, hW1, hf1, c0, c1⟩ := box_batch w q v
  obtain ⟨W2, hW2, hf2, d0, d1, d2⟩ := box_op W1 x
  have hsz : W1.heap.size = w.heap.size + 1 := by rw [← hW1]; simp [World.alloc, -World.alloc_eq]
  rw [hsz] at d0 d1 d2
  exact ⟨W2, by rw [hW1, hW2], hf1.trans hf2, hf2.cell c0 (fun h => h), hf2.cell c1 (fun h => h), d0, d1, d2⟩
set_option maxRecDepth 20000 in
set_option maxHeartbeats 6400000 in
theorem bsizes_c (H : BatchOK) (w : World) (q : Int) (a : Option Addr) (ca : Nat) (l : List Op10) (x : Op10) (wq : (Lit.int .i64 q).wf = true) (h1 : l.length ≤ ca) (h2 : ca ≤ maxLen) (hi : Ops w (fun _ => True) a l) (hwf : ∀ x ∈ l, OpWf x) (hx : OpWf x) :
    Calls Try.prog 7 #[.agg #[.int .i64 q, .slice a l.length ca], opV x] w (Ask (.bool true) w) := by
  have h1' : l.length ≤ maxLen := Nat.le_trans h1 h2
  obtain ⟨W, hW, hfW, m0, m1, x0, x1, x2⟩ := box_two w q (.slice a l.length ca) x
  have HS := Lib.hid (small10_c q a ca l W h1' (hi.keep hfW fun _ _ h => h))
  have HLA := Lib.hid (fun a n c l w h => last_bt H wq a n c l w h)
  have HSI := Lib.hid (fun a n c l w h => size_bt H wq a n c l w h)
  have HCH := Lib.hid (fun a n c l w h => check_bt H wq a n c l w h)
  have HPA := Lib.hid (fun (h : allO q l = true) => allO_parts h)
  obtain ⟨n, hn⟩ : ∃ n, l.length = n := ⟨_, rfl⟩
  have hbt : BtAt W a n ca l := ⟨hn, hn ▸ h1, h2, hwf, ⟨_, hi.keep hfW fun _ _ h => h⟩⟩
  rw [hn] at h1 HS HPA m1 hW ⊢
  unfold opV
  have HH := Lib.hid H
  have HW := Lib.hid hW
  have HFW := Lib.hid hfW
  have HN := Lib.hid hn
  have HXW := Lib.hid hx
  have HBT := Lib.hid hbt
  obtain ⟨_, hxk, hxv⟩ := hx
  unfold maxLen at hxk hxv
  have HWF := Lib.hid hwf
  clear hW hfW hi hn h1 h2 h1' H hwf hbt
  cases hs : small10 l with
  | false =>
    rw [hs] at HS
    go_enter Try.func7, Try.ntmps7
    go_wp2_with fail
    rw [HW.out]
    go_wp2_with fail
    refine HS.out.mono ?_
    rintro e w1 ⟨rfl, hf1⟩
    have HF1 := Lib.hid (HFW.out.trans hf1)
    clear hf1
    go_wp2_with fail
    refine (awake10_c HH.out _).mono ?_
    rintro e w5 ⟨rfl, hf5⟩
    have HF5 := Lib.hid hf5
    clear hf5
    go_wp2_with fail
    go_ret
    exact ⟨rfl, HF1.out.trans HF5.out⟩
  | true =>
    rw [hs] at HS
    by_cases hk5 : (x.key.size : Int) > 5000
    · go_enter Try.func7, Try.ntmps7
      go_wp2_with fail
      rw [HW.out]
      go_wp2_with fail
      refine HS.out.mono ?_
      rintro e w1 ⟨rfl, hf1⟩
      have x1 := hf1.cell x1 (fun h => h)
      have HF1 := Lib.hid (HFW.out.trans hf1)
      clear hf1
      go_wp2_with fail
      refine (awake10_c HH.out _).mono ?_
      rintro e w5 ⟨rfl, hf5⟩
      have HF5 := Lib.hid hf5
      clear hf5
      go_wp2_with fail
      go_ret
      exact ⟨rfl, HF1.out.trans HF5.out⟩
    by_cases hk6 : (x.val.size : Int) > 5000
    · go_enter Try.func7, Try.ntmps7
      go_wp2_with fail
      rw [HW.out]
      go_wp2_with fail
      refine HS.out.mono ?_
      rintro e w1 ⟨rfl, hf1⟩
      have x1 := hf1.cell x1 (fun h => h)
      have x2 := hf1.cell x2 (fun h => h)
      have HF1 := Lib.hid (HFW.out.trans hf1)
      clear hf1
      go_wp2_with fail
      refine (awake10_c HH.out _).mono ?_
      rintro e w5 ⟨rfl, hf5⟩
      have HF5 := Lib.hid hf5
      clear hf5
      go_wp2_with fail
      go_ret
      exact ⟨rfl, HF1.out.trans HF5.out⟩
    cases hall : allO q l with
    | false =>
      have hE : errO (allO q l) = .int .i64 100 := by rw [hall]; rfl
      have HCH := Lib.hid (fun (w' : World) (h : BtAt w' a n ca l) => hE ▸ HCH.out a n ca l w' h)
      clear hE hall HLA HSI HPA
      go_enter Try.func7, Try.ntmps7
      go_wp2_with fail
      rw [HW.out]
      go_wp2_with fail
      refine HS.out.mono ?_
      rintro e w1 ⟨rfl, hf1⟩
      have HF1 := Lib.hid (HFW.out.trans hf1)
      have m0 := hf1.cell m0 (fun h => h)
      have m1 := hf1.cell m1 (fun h => h)
      have x1 := hf1.cell x1 (fun h => h)
      have x2 := hf1.cell x2 (fun h => h)
      have HB1 := Lib.hid (HBT.out.keep hf1)
      clear hf1 HS HW
      go_wp2_with fail
      refine (HCH.out w1 HB1.out).mono ?_
      rintro e w2 ⟨rfl, hf2⟩
      have HF2 := Lib.hid (HF1.out.trans hf2)
      clear hf2
      go_wp2_with fail
      refine (awake10_c HH.out _).mono ?_
      rintro e w5 ⟨rfl, hf5⟩
      have HF5 := Lib.hid hf5
      clear hf5
      go_wp2_with fail
      go_ret
      exact ⟨rfl, HF2.out.trans HF5.out⟩
    | true =>
      have hE : errO (allO q l) = .int .i64 0 := by rw [hall]; rfl
      have HCH0 := Lib.hid (fun (w' : World) (h : BtAt w' a n ca l) => hE ▸ HCH.out a n ca l w' h)
      obtain ⟨p1, p2, p3, p4, p5⟩ := HPA.out hall
      have HP5 := Lib.hid p5
      have HALL := Lib.hid hall
      clear hE hall HPA p5 hs
      go_enter Try.func7, Try.ntmps7
      go_wp2_with fail
      rw [HW.out]
      go_wp2_with fail
      refine HS.out.mono ?_
      rintro e w1 ⟨rfl, hf1⟩
      have HF1 := Lib.hid (HFW.out.trans hf1)
      have m0 := hf1.cell m0 (fun h => h)
      have m1 := hf1.cell m1 (fun h => h)
      have x0 := hf1.cell x0 (fun h => h)
      have x1 := hf1.cell x1 (fun h => h)
      have x2 := hf1.cell x2 (fun h => h)
      have HB1 := Lib.hid (HBT.out.keep hf1)
      clear hf1 HS HW HBT
      go_wp2_with fail
      refine (HCH0.out w1 HB1.out).mono ?_
      rintro e w2 ⟨rfl, hf2⟩
      have HF2 := Lib.hid (HF1.out.trans hf2)
      have m0 := hf2.cell m0 (fun h => h)
      have m1 := hf2.cell m1 (fun h => h)
      have x0 := hf2.cell x0 (fun h => h)
      have x1 := hf2.cell x1 (fun h => h)
      have x2 := hf2.cell x2 (fun h => h)
      have HB2 := Lib.hid (HB1.out.keep hf2)
      obtain ⟨B, hB⟩ : ∃ B, w.heap.size = B := ⟨_, rfl⟩
      have HB := Lib.hid hB
      rw [hB] at m0 m1 x0 x1 x2 ⊢
      clear hf2 HF1 HB1 HCH0 hB
      go_upto_region 3 with fail
      go_cut [5] from 29 to 38 (fun s5 wx => ∃ D v, s5 = .pointer (some ⟨D, 0, none⟩) ∧ Fr No w2 wx ∧ w2.heap.size ≤ D ∧ wx.cell? ⟨D, 0, none⟩ = some (.int .i64 q) ∧ wx.cell? ⟨D, 1, none⟩ = some v ∧ RowG wx (fun k => w2.heap.size ≤ k ∧ k ≠ D) 30 3 v (n + 1) (opsC (l ++ [x])))
      case first =>
        refine wp_region_held_drew (S := fun w' => Fr No w2 w') (by kernel_rfl) (Fr.refl No w2).drew (fun hHeld => ?_)
        refine take_drop (i := 0) (v := ?v0_1) rfl (by kernel_rfl) (by kernel_rfl) (by kernel_rfl) (fun _ _ _ h => h) (Or.inl ⟨by rfl, ?h0_1⟩) hHeld ?r0_1
        case h0_1 => (intro wS hSw; have m0 := hSw.cell m0 (fun h => h); have m1 := hSw.cell m1 (fun h => h); have x0 := hSw.cell x0 (fun h => h); have x1 := hSw.cell x1 (fun h => h); have x2 := hSw.cell x2 (fun h => h); go_simp; all_goals (with_reducible rfl))
        simp only [Act.put, List.setIfInBounds_toArray, List.set_cons_zero, List.set_cons_succ]
        refine take_drop (i := 1) (v := ?v1_2) rfl (by kernel_rfl) (by kernel_rfl) (by kernel_rfl) (fun _ _ _ h => h) (Or.inl ⟨by rfl, ?h1_2⟩) hHeld ?r1_2
        case h1_2 => (intro wS hSw; have m0 := hSw.cell m0 (fun h => h); have m1 := hSw.cell m1 (fun h => h); have x0 := hSw.cell x0 (fun h => h); have x1 := hSw.cell x1 (fun h => h); have x2 := hSw.cell x2 (fun h => h); go_simp; all_goals (with_reducible rfl))
        simp only [Act.put, List.setIfInBounds_toArray, List.set_cons_zero, List.set_cons_succ]
        refine take_drop (i := 3) (v := ?v3_3) rfl (by kernel_rfl) (by kernel_rfl) (by kernel_rfl) (fun _ _ _ h => h) (Or.inl ⟨by rfl, ?h3_3⟩) hHeld ?r3_3
        case h3_3 => (intro wS hSw; have m0 := hSw.cell m0 (fun h => h); have m1 := hSw.cell m1 (fun h => h); have x0 := hSw.cell x0 (fun h => h); have x1 := hSw.cell x1 (fun h => h); have x2 := hSw.cell x2 (fun h => h); go_simp; all_goals (with_reducible rfl))
        simp only [Act.put, List.setIfInBounds_toArray, List.set_cons_zero, List.set_cons_succ]
        refine take_drop (i := 4) (v := ?v4_4) rfl (by kernel_rfl) (by kernel_rfl) (by kernel_rfl) (fun _ _ _ h => h) (Or.inl ⟨by rfl, ?h4_4⟩) hHeld ?r4_4
        case h4_4 => (intro wS hSw; have m0 := hSw.cell m0 (fun h => h); have m1 := hSw.cell m1 (fun h => h); have x0 := hSw.cell x0 (fun h => h); have x1 := hSw.cell x1 (fun h => h); have x2 := hSw.cell x2 (fun h => h); go_simp; all_goals (with_reducible rfl))
        simp only [Act.put, List.setIfInBounds_toArray, List.set_cons_zero, List.set_cons_succ]
        refine take_drop (i := 6) (v := ?v6_5) rfl (by kernel_rfl) (by kernel_rfl) (by kernel_rfl) (fun _ _ _ h => h) (Or.inl ⟨by rfl, ?h6_5⟩) hHeld ?r6_5
        case h6_5 => (intro wS hSw; have m0 := hSw.cell m0 (fun h => h); have m1 := hSw.cell m1 (fun h => h); have x0 := hSw.cell x0 (fun h => h); have x1 := hSw.cell x1 (fun h => h); have x2 := hSw.cell x2 (fun h => h); go_simp; all_goals (with_reducible rfl))
        simp only [Act.put, List.setIfInBounds_toArray, List.set_cons_zero, List.set_cons_succ]
        obtain ⟨wR, hR⟩ : ∃ y, w2.drew = y := ⟨_, rfl⟩
        rw [hR] at hHeld ⊢
        have HF := Lib.hid hHeld
        clear hHeld hR
        refine wpAnyH_ready (rs := [2, 7, 10]) (by kernel_rfl) (by simp) ?_
        refine do_drop (i := 2) rfl (fun K hK => ?_) ?_
        · go_simp
          obtain ⟨v1, hW_⟩ : ∃ y, wR.alloc (.cells #[] 30) = y := ⟨_, rfl⟩
          have f0 : Fr No wR v1 := by rw [← hW_]; exact (Fr.refl _ _).alloc _
          obtain ⟨g2, hg_⟩ : ∃ y, wR.heap.size = y := ⟨_, rfl⟩
          have hat_ : At v1 g2 30 #[] := by rw [← hW_, ← hg_]; exact At.new _ _ _
          have HGA : Hid (w2.heap.size ≤ g2) := Lib.hid (by rw [← hg_]; exact HF.out.size)
          have HAt := Lib.hid hat_
          have HF := Lib.hid (HF.out.trans f0)
          rw [hW_, hg_]
          refine hK.out _ _ HF.out ?_
          clear hW_ hg_ f0 hat_ hK K
          try simp only [Act.put, List.setIfInBounds_toArray, List.set_cons_zero, List.set_cons_succ]
          refine wpAnyH_ready (rs := [5, 7, 10]) (by kernel_rfl) (by simp) ?_
          refine do_drop (i := 5) rfl (fun K hK => ?_) ?_
          · obtain ⟨r4, v3, hrun_, hrow_, f1⟩ := RowG.moreO (l := []) (RowG.none_ HAt.out) a n ca HN.out (by omega) ((HB2.out.keep HF.out).ops).choose_spec (by omega)
            rw [Nat.zero_add, List.nil_append] at hrow_
            rw [if_pos (by rfl)]
            refine oper_append_run _ _ 22 rfl rfl rfl hrun_ ?_
            have eA := HGA.out
            have eF := HF.out.size
            have HR := Lib.hid (RowG.sub (T := (fun k => w2.heap.size ≤ k)) hrow_ (fun k hk h => by unfold Gr One at h; (try dsimp only at h); omega))
            have HF := Lib.hid (HF.out.then_ f1 fun k hk h => by unfold One at h; omega)
            clear eA eF
            refine hK.out _ _ HF.out ?_
            clear hrun_ hrow_ f1 hK K
            try simp only [Act.put, List.setIfInBounds_toArray, List.set_cons_zero, List.set_cons_succ]
            refine wpAnyH_ready (rs := [7, 10]) (by kernel_rfl) (by simp) ?_
            refine do_drop (i := 7) rfl (fun K hK => ?_) ?_
            · go_simp
              obtain ⟨v5, hW_⟩ : ∃ y, v3.alloc (.cells #[.int .i64 x.k, .string x.key, .string x.val] 30) = y := ⟨_, rfl⟩
              have f0 : Fr No v3 v5 := by rw [← hW_]; exact (Fr.refl _ _).alloc _
              obtain ⟨g6, hg_⟩ : ∃ y, v3.heap.size = y := ⟨_, rfl⟩
              have hat_ : At v5 g6 30 #[.int .i64 x.k, .string x.key, .string x.val] := by rw [← hW_, ← hg_]; exact At.new _ _ _
              have HGC : Hid (w2.heap.size ≤ g6) := Lib.hid (by rw [← hg_]; exact HF.out.size)
              have HR := Lib.hid ((RowG.sub (T := (fun k => w2.heap.size ≤ k ∧ k ≠ g6)) HR.out (fun k hk h => ⟨h, by omega⟩)).keep f0 fun _ _ h => h)
              have HCt := Lib.hid hat_
              have HF := Lib.hid (HF.out.trans f0)
              rw [hW_, hg_]
              refine hK.out _ _ HF.out ?_
              clear hW_ hg_ f0 hat_ hK K
              try simp only [Act.put, List.setIfInBounds_toArray, List.set_cons_zero, List.set_cons_succ]
              refine wpAnyH_ready (rs := [8, 10]) (by kernel_rfl) (by simp) ?_
              refine do_drop (i := 8) rfl (fun K hK => ?_) ?_
              · obtain ⟨r8, v7, hrun_, hrow_, f1⟩ := RowG.moreO (l' := [x]) HR.out (some ⟨g6, 0, none⟩) 1 1 rfl (by omega) (ops_one HCt.out) (by omega)
                rw [if_pos (by rfl)]
                obtain ⟨a9, c10, hsh_, _⟩ := hrow_.form
                subst hsh_
                refine oper_append_run _ _ 22 rfl rfl rfl hrun_ ?_
                have eF := HF.out.size
                have HR := Lib.hid (RowG.sub (T := (fun k => w2.heap.size ≤ k)) hrow_ (fun k hk h => by unfold Gr at h; (try dsimp only at h); omega))
                have HF := Lib.hid (HF.out.then_ f1 fun k hk h => by (try dsimp only at h); omega)
                clear eF
                refine hK.out _ _ HF.out ?_
                clear hrun_ hrow_ f1 hK K
                try simp only [Act.put, List.setIfInBounds_toArray, List.set_cons_zero, List.set_cons_succ]
                refine take_drop (i := 9) (v := .agg #[.int .i64 q, (.slice a9 (n + 1) c10)]) rfl (by kernel_rfl) (by kernel_rfl) (by kernel_rfl) (fun _ _ _ h => h) (Or.inl ⟨by rfl, fun wS hSw => by go_simp⟩) HF.out ?_
                simp only [Act.put, List.setIfInBounds_toArray, List.set_cons_zero, List.set_cons_succ]
                refine wpAnyH_ready (rs := [10]) (by kernel_rfl) (by simp) ?_
                refine do_drop (i := 10) rfl (fun K hK => ?_) AllReadyH.nil
                go_simp
                obtain ⟨v11, hW_⟩ : ∃ y, v7.alloc (.cells #[.int .i64 0, .slice none 0 0] 24) = y := ⟨_, rfl⟩
                have f0 : Fr No v7 v11 := by rw [← hW_]; exact (Fr.refl _ _).alloc _
                obtain ⟨g12, hg_⟩ : ∃ y, v7.heap.size = y := ⟨_, rfl⟩
                have hat_ : At v11 g12 24 #[.int .i64 0, .slice none 0 0] := by rw [← hW_, ← hg_]; exact At.new _ _ _
                have HGE : Hid (w2.heap.size ≤ g12) := Lib.hid (by rw [← hg_]; exact HF.out.size)
                have HR := Lib.hid ((RowG.sub (T := (fun k => w2.heap.size ≤ k ∧ k ≠ g12)) HR.out (fun k hk h => ⟨h, by omega⟩)).keep f0 fun _ _ h => h)
                have HEt := Lib.hid hat_
                have HF := Lib.hid (HF.out.trans f0)
                rw [hW_, hg_]
                refine hK.out _ _ HF.out ?_
                clear hW_ hg_ f0 hat_ hK K
                try simp only [Act.put, List.setIfInBounds_toArray, List.set_cons_zero, List.set_cons_succ]
                refine wpAnyH_ready (rs := [11]) (by kernel_rfl) (by simp) ?_
                refine do_drop (i := 11) rfl (fun K hK => ?_) AllReadyH.nil
                have hc0 := HEt.out.cell 0
                have hc1 := HEt.out.cell 1
                have hz0 := HEt.out.frozen 0
                have hz1 := HEt.out.frozen 1
                go_simp
                have eG := HGE.out
                have f1 : Fr (One g12) v11 ((v11.setCell ⟨g12, 0, none⟩ (.int .i64 q)).setCell ⟨g12, 1, none⟩ (.slice a9 (n + 1) c10)) := ((Fr.refl (One g12) v11).setCell (p := ⟨g12, 0, none⟩) (fun _ => rfl) _).setCell (p := ⟨g12, 1, none⟩) (fun _ => rfl) _
                have hat_ := (HEt.out.set_ 0 (.int .i64 q)).set_ 1 (.slice a9 (n + 1) c10)
                have HR := Lib.hid (HR.out.keep f1 fun k hk h => by unfold One at h; omega)
                have HF := Lib.hid (HF.out.then_ f1 fun k hk h => by unfold One at h; omega)
                refine hK.out _ _ HF.out ?_
                clear hK K
                try simp only [Act.put, List.setIfInBounds_toArray, List.set_cons_zero, List.set_cons_succ]
                refine wpAnyH_done (by kernel_rfl) ?_ _
                go_wp2_with fail
                go_meet
                case rel => exact ⟨g12, (.slice a9 (n + 1) c10), rfl, HF.out, HGE.out, hat_.cell 0, hat_.cell 1, HR.out⟩
              refine do_drop (i := 10) rfl (fun K hK => ?_) AllReadyH.nil
              go_simp
              obtain ⟨v13, hW_⟩ : ∃ y, v5.alloc (.cells #[.int .i64 0, .slice none 0 0] 24) = y := ⟨_, rfl⟩
              have f0 : Fr No v5 v13 := by rw [← hW_]; exact (Fr.refl _ _).alloc _
              obtain ⟨g14, hg_⟩ : ∃ y, v5.heap.size = y := ⟨_, rfl⟩
              have hat_ : At v13 g14 24 #[.int .i64 0, .slice none 0 0] := by rw [← hW_, ← hg_]; exact At.new _ _ _
              have HGE : Hid (w2.heap.size ≤ g14) := Lib.hid (by rw [← hg_]; exact HF.out.size)
              have HCE : Hid (g6 ≠ g14) := Lib.hid (by have := HCt.out.lt; omega)
              have HCt := Lib.hid (HCt.out.keep f0 (fun h => h))
              have HR := Lib.hid ((RowG.sub (T := (fun k => w2.heap.size ≤ k ∧ k ≠ g6 ∧ k ≠ g14)) HR.out (fun k hk h => ⟨h.1, h.2, by omega⟩)).keep f0 fun _ _ h => h)
              have HEt := Lib.hid hat_
              have HF := Lib.hid (HF.out.trans f0)
              rw [hW_, hg_]
              refine hK.out _ _ HF.out ?_
              clear hW_ hg_ f0 hat_ hK K
              try simp only [Act.put, List.setIfInBounds_toArray, List.set_cons_zero, List.set_cons_succ]
              refine wpAnyH_ready (rs := [8]) (by kernel_rfl) (by simp) ?_
              refine do_drop (i := 8) rfl (fun K hK => ?_) AllReadyH.nil
              obtain ⟨r16, v15, hrun_, hrow_, f1⟩ := RowG.moreO (l' := [x]) HR.out (some ⟨g6, 0, none⟩) 1 1 rfl (by omega) (ops_one HCt.out) (by omega)
              rw [if_pos (by rfl)]
              obtain ⟨a17, c18, hsh_, _⟩ := hrow_.form
              subst hsh_
              refine oper_append_run _ _ 22 rfl rfl rfl hrun_ ?_
              have eE := HEt.out.lt
              have eF := HF.out.size
              have HR := Lib.hid (RowG.sub (T := (fun k => w2.heap.size ≤ k ∧ k ≠ g14)) hrow_ (fun k hk h => by unfold Gr at h; (try dsimp only at h); omega))
              have HEt := Lib.hid (HEt.out.keep f1 (fun h => by (try dsimp only at h); omega))
              have HF := Lib.hid (HF.out.then_ f1 fun k hk h => by (try dsimp only at h); omega)
              clear eE eF
              refine hK.out _ _ HF.out ?_
              clear hrun_ hrow_ f1 hK K
              try simp only [Act.put, List.setIfInBounds_toArray, List.set_cons_zero, List.set_cons_succ]
              refine take_drop (i := 9) (v := .agg #[.int .i64 q, (.slice a17 (n + 1) c18)]) rfl (by kernel_rfl) (by kernel_rfl) (by kernel_rfl) (fun _ _ _ h => h) (Or.inl ⟨by rfl, fun wS hSw => by go_simp⟩) HF.out ?_
              simp only [Act.put, List.setIfInBounds_toArray, List.set_cons_zero, List.set_cons_succ]
              refine wpAnyH_ready (rs := [11]) (by kernel_rfl) (by simp) ?_
              refine do_drop (i := 11) rfl (fun K hK => ?_) AllReadyH.nil
              have hc0 := HEt.out.cell 0
              have hc1 := HEt.out.cell 1
              have hz0 := HEt.out.frozen 0
              have hz1 := HEt.out.frozen 1
              go_simp
              have eG := HGE.out
              have f1 : Fr (One g14) v15 ((v15.setCell ⟨g14, 0, none⟩ (.int .i64 q)).setCell ⟨g14, 1, none⟩ (.slice a17 (n + 1) c18)) := ((Fr.refl (One g14) v15).setCell (p := ⟨g14, 0, none⟩) (fun _ => rfl) _).setCell (p := ⟨g14, 1, none⟩) (fun _ => rfl) _
              have hat_ := (HEt.out.set_ 0 (.int .i64 q)).set_ 1 (.slice a17 (n + 1) c18)
              have HR := Lib.hid (HR.out.keep f1 fun k hk h => by unfold One at h; omega)
              have HF := Lib.hid (HF.out.then_ f1 fun k hk h => by unfold One at h; omega)
              refine hK.out _ _ HF.out ?_
              clear hK K
              try simp only [Act.put, List.setIfInBounds_toArray, List.set_cons_zero, List.set_cons_succ]
              refine wpAnyH_done (by kernel_rfl) ?_ _
              go_wp2_with fail
              go_meet
              case rel => exact ⟨g14, (.slice a17 (n + 1) c18), rfl, HF.out, HGE.out, hat_.cell 0, hat_.cell 1, HR.out⟩
            refine do_drop (i := 10) rfl (fun K hK => ?_) AllReadyH.nil
            go_simp
            obtain ⟨v19, hW_⟩ : ∃ y, v3.alloc (.cells #[.int .i64 0, .slice none 0 0] 24) = y := ⟨_, rfl⟩
            have f0 : Fr No v3 v19 := by rw [← hW_]; exact (Fr.refl _ _).alloc _
            obtain ⟨g20, hg_⟩ : ∃ y, v3.heap.size = y := ⟨_, rfl⟩
            have hat_ : At v19 g20 24 #[.int .i64 0, .slice none 0 0] := by rw [← hW_, ← hg_]; exact At.new _ _ _
            have HGE : Hid (w2.heap.size ≤ g20) := Lib.hid (by rw [← hg_]; exact HF.out.size)
            have HR := Lib.hid ((RowG.sub (T := (fun k => w2.heap.size ≤ k ∧ k ≠ g20)) HR.out (fun k hk h => ⟨h, by omega⟩)).keep f0 fun _ _ h => h)
            have HEt := Lib.hid hat_
            have HF := Lib.hid (HF.out.trans f0)
            rw [hW_, hg_]
            refine hK.out _ _ HF.out ?_
            clear hW_ hg_ f0 hat_ hK K
            try simp only [Act.put, List.setIfInBounds_toArray, List.set_cons_zero, List.set_cons_succ]
            refine wpAnyH_ready (rs := [7]) (by kernel_rfl) (by simp) ?_
            refine do_drop (i := 7) rfl (fun K hK => ?_) AllReadyH.nil
            go_simp
            obtain ⟨v21, hW_⟩ : ∃ y, v19.alloc (.cells #[.int .i64 x.k, .string x.key, .string x.val] 30) = y := ⟨_, rfl⟩
            have f0 : Fr No v19 v21 := by rw [← hW_]; exact (Fr.refl _ _).alloc _
            obtain ⟨g22, hg_⟩ : ∃ y, v19.heap.size = y := ⟨_, rfl⟩
            have hat_ : At v21 g22 30 #[.int .i64 x.k, .string x.key, .string x.val] := by rw [← hW_, ← hg_]; exact At.new _ _ _
            have HGC : Hid (w2.heap.size ≤ g22) := Lib.hid (by rw [← hg_]; exact HF.out.size)
            have HEC : Hid (g20 ≠ g22) := Lib.hid (by have := HEt.out.lt; omega)
            have HEt := Lib.hid (HEt.out.keep f0 (fun h => h))
            have HR := Lib.hid ((RowG.sub (T := (fun k => w2.heap.size ≤ k ∧ k ≠ g22 ∧ k ≠ g20)) HR.out (fun k hk h => ⟨h.1, by omega, h.2⟩)).keep f0 fun _ _ h => h)
            have HCt := Lib.hid hat_
            have HF := Lib.hid (HF.out.trans f0)
            rw [hW_, hg_]
            refine hK.out _ _ HF.out ?_
            clear hW_ hg_ f0 hat_ hK K
            try simp only [Act.put, List.setIfInBounds_toArray, List.set_cons_zero, List.set_cons_succ]
            refine wpAnyH_ready (rs := [8]) (by kernel_rfl) (by simp) ?_
            refine do_drop (i := 8) rfl (fun K hK => ?_) AllReadyH.nil
            obtain ⟨r24, v23, hrun_, hrow_, f1⟩ := RowG.moreO (l' := [x]) HR.out (some ⟨g22, 0, none⟩) 1 1 rfl (by omega) (ops_one HCt.out) (by omega)
            rw [if_pos (by rfl)]
            obtain ⟨a25, c26, hsh_, _⟩ := hrow_.form
            subst hsh_
            refine oper_append_run _ _ 22 rfl rfl rfl hrun_ ?_
            have eE := HEt.out.lt
            have eF := HF.out.size
            have HR := Lib.hid (RowG.sub (T := (fun k => w2.heap.size ≤ k ∧ k ≠ g20)) hrow_ (fun k hk h => by unfold Gr at h; (try dsimp only at h); omega))
            have HEt := Lib.hid (HEt.out.keep f1 (fun h => by (try dsimp only at h); omega))
            have HF := Lib.hid (HF.out.then_ f1 fun k hk h => by (try dsimp only at h); omega)
            clear eE eF
            refine hK.out _ _ HF.out ?_
            clear hrun_ hrow_ f1 hK K
            try simp only [Act.put, List.setIfInBounds_toArray, List.set_cons_zero, List.set_cons_succ]
            refine take_drop (i := 9) (v := .agg #[.int .i64 q, (.slice a25 (n + 1) c26)]) rfl (by kernel_rfl) (by kernel_rfl) (by kernel_rfl) (fun _ _ _ h => h) (Or.inl ⟨by rfl, fun wS hSw => by go_simp⟩) HF.out ?_
            simp only [Act.put, List.setIfInBounds_toArray, List.set_cons_zero, List.set_cons_succ]
            refine wpAnyH_ready (rs := [11]) (by kernel_rfl) (by simp) ?_
            refine do_drop (i := 11) rfl (fun K hK => ?_) AllReadyH.nil
            have hc0 := HEt.out.cell 0
            have hc1 := HEt.out.cell 1
            have hz0 := HEt.out.frozen 0
            have hz1 := HEt.out.frozen 1
            go_simp
            have eG := HGE.out
            have f1 : Fr (One g20) v23 ((v23.setCell ⟨g20, 0, none⟩ (.int .i64 q)).setCell ⟨g20, 1, none⟩ (.slice a25 (n + 1) c26)) := ((Fr.refl (One g20) v23).setCell (p := ⟨g20, 0, none⟩) (fun _ => rfl) _).setCell (p := ⟨g20, 1, none⟩) (fun _ => rfl) _
            have hat_ := (HEt.out.set_ 0 (.int .i64 q)).set_ 1 (.slice a25 (n + 1) c26)
            have HR := Lib.hid (HR.out.keep f1 fun k hk h => by unfold One at h; omega)
            have HF := Lib.hid (HF.out.then_ f1 fun k hk h => by unfold One at h; omega)
            refine hK.out _ _ HF.out ?_
            clear hK K
            try simp only [Act.put, List.setIfInBounds_toArray, List.set_cons_zero, List.set_cons_succ]
            refine wpAnyH_done (by kernel_rfl) ?_ _
            go_wp2_with fail
            go_meet
            case rel => exact ⟨g20, (.slice a25 (n + 1) c26), rfl, HF.out, HGE.out, hat_.cell 0, hat_.cell 1, HR.out⟩
          refine do_drop (i := 7) rfl (fun K hK => ?_) ?_
          · go_simp
            obtain ⟨v27, hW_⟩ : ∃ y, v1.alloc (.cells #[.int .i64 x.k, .string x.key, .string x.val] 30) = y := ⟨_, rfl⟩
            have f0 : Fr No v1 v27 := by rw [← hW_]; exact (Fr.refl _ _).alloc _
            obtain ⟨g28, hg_⟩ : ∃ y, v1.heap.size = y := ⟨_, rfl⟩
            have hat_ : At v27 g28 30 #[.int .i64 x.k, .string x.key, .string x.val] := by rw [← hW_, ← hg_]; exact At.new _ _ _
            have HGC : Hid (w2.heap.size ≤ g28) := Lib.hid (by rw [← hg_]; exact HF.out.size)
            have HAC : Hid (g2 ≠ g28) := Lib.hid (by have := HAt.out.lt; omega)
            have HAt := Lib.hid (HAt.out.keep f0 (fun h => h))
            have HCt := Lib.hid hat_
            have HF := Lib.hid (HF.out.trans f0)
            rw [hW_, hg_]
            refine hK.out _ _ HF.out ?_
            clear hW_ hg_ f0 hat_ hK K
            try simp only [Act.put, List.setIfInBounds_toArray, List.set_cons_zero, List.set_cons_succ]
            refine wpAnyH_ready (rs := [5, 10]) (by kernel_rfl) (by simp) ?_
            refine do_drop (i := 5) rfl (fun K hK => ?_) ?_
            · obtain ⟨r30, v29, hrun_, hrow_, f1⟩ := RowG.moreO (l := []) (RowG.none_ HAt.out) a n ca HN.out (by omega) ((HB2.out.keep HF.out).ops).choose_spec (by omega)
              rw [Nat.zero_add, List.nil_append] at hrow_
              rw [if_pos (by rfl)]
              refine oper_append_run _ _ 22 rfl rfl rfl hrun_ ?_
              have eC := HCt.out.lt
              have dC := HAC.out
              have eA := HGA.out
              have eF := HF.out.size
              have HR := Lib.hid (RowG.sub (T := (fun k => w2.heap.size ≤ k ∧ k ≠ g28)) hrow_ (fun k hk h => by unfold Gr One at h; (try dsimp only at h); omega))
              have HCt := Lib.hid (HCt.out.keep f1 (fun h => by unfold One at h; omega))
              have HF := Lib.hid (HF.out.then_ f1 fun k hk h => by unfold One at h; omega)
              clear eC dC eA eF
              refine hK.out _ _ HF.out ?_
              clear hrun_ hrow_ f1 hK K
              try simp only [Act.put, List.setIfInBounds_toArray, List.set_cons_zero, List.set_cons_succ]
              refine wpAnyH_ready (rs := [8, 10]) (by kernel_rfl) (by simp) ?_
              refine do_drop (i := 8) rfl (fun K hK => ?_) ?_
              · obtain ⟨r32, v31, hrun_, hrow_, f1⟩ := RowG.moreO (l' := [x]) HR.out (some ⟨g28, 0, none⟩) 1 1 rfl (by omega) (ops_one HCt.out) (by omega)
                rw [if_pos (by rfl)]
                obtain ⟨a33, c34, hsh_, _⟩ := hrow_.form
                subst hsh_
                refine oper_append_run _ _ 22 rfl rfl rfl hrun_ ?_
                have eF := HF.out.size
                have HR := Lib.hid (RowG.sub (T := (fun k => w2.heap.size ≤ k)) hrow_ (fun k hk h => by unfold Gr at h; (try dsimp only at h); omega))
                have HF := Lib.hid (HF.out.then_ f1 fun k hk h => by (try dsimp only at h); omega)
                clear eF
                refine hK.out _ _ HF.out ?_
                clear hrun_ hrow_ f1 hK K
                try simp only [Act.put, List.setIfInBounds_toArray, List.set_cons_zero, List.set_cons_succ]
                refine take_drop (i := 9) (v := .agg #[.int .i64 q, (.slice a33 (n + 1) c34)]) rfl (by kernel_rfl) (by kernel_rfl) (by kernel_rfl) (fun _ _ _ h => h) (Or.inl ⟨by rfl, fun wS hSw => by go_simp⟩) HF.out ?_
                simp only [Act.put, List.setIfInBounds_toArray, List.set_cons_zero, List.set_cons_succ]
                refine wpAnyH_ready (rs := [10]) (by kernel_rfl) (by simp) ?_
                refine do_drop (i := 10) rfl (fun K hK => ?_) AllReadyH.nil
                go_simp
                obtain ⟨v35, hW_⟩ : ∃ y, v31.alloc (.cells #[.int .i64 0, .slice none 0 0] 24) = y := ⟨_, rfl⟩
                have f0 : Fr No v31 v35 := by rw [← hW_]; exact (Fr.refl _ _).alloc _
                obtain ⟨g36, hg_⟩ : ∃ y, v31.heap.size = y := ⟨_, rfl⟩
                have hat_ : At v35 g36 24 #[.int .i64 0, .slice none 0 0] := by rw [← hW_, ← hg_]; exact At.new _ _ _
                have HGE : Hid (w2.heap.size ≤ g36) := Lib.hid (by rw [← hg_]; exact HF.out.size)
                have HR := Lib.hid ((RowG.sub (T := (fun k => w2.heap.size ≤ k ∧ k ≠ g36)) HR.out (fun k hk h => ⟨h, by omega⟩)).keep f0 fun _ _ h => h)
                have HEt := Lib.hid hat_
                have HF := Lib.hid (HF.out.trans f0)
                rw [hW_, hg_]
                refine hK.out _ _ HF.out ?_
                clear hW_ hg_ f0 hat_ hK K
                try simp only [Act.put, List.setIfInBounds_toArray, List.set_cons_zero, List.set_cons_succ]
                refine wpAnyH_ready (rs := [11]) (by kernel_rfl) (by simp) ?_
                refine do_drop (i := 11) rfl (fun K hK => ?_) AllReadyH.nil
                have hc0 := HEt.out.cell 0
                have hc1 := HEt.out.cell 1
                have hz0 := HEt.out.frozen 0
                have hz1 := HEt.out.frozen 1
                go_simp
                have eG := HGE.out
                have f1 : Fr (One g36) v35 ((v35.setCell ⟨g36, 0, none⟩ (.int .i64 q)).setCell ⟨g36, 1, none⟩ (.slice a33 (n + 1) c34)) := ((Fr.refl (One g36) v35).setCell (p := ⟨g36, 0, none⟩) (fun _ => rfl) _).setCell (p := ⟨g36, 1, none⟩) (fun _ => rfl) _
                have hat_ := (HEt.out.set_ 0 (.int .i64 q)).set_ 1 (.slice a33 (n + 1) c34)
                have HR := Lib.hid (HR.out.keep f1 fun k hk h => by unfold One at h; omega)
                have HF := Lib.hid (HF.out.then_ f1 fun k hk h => by unfold One at h; omega)
                refine hK.out _ _ HF.out ?_
                clear hK K
                try simp only [Act.put, List.setIfInBounds_toArray, List.set_cons_zero, List.set_cons_succ]
                refine wpAnyH_done (by kernel_rfl) ?_ _
                go_wp2_with fail
                go_meet
                case rel => exact ⟨g36, (.slice a33 (n + 1) c34), rfl, HF.out, HGE.out, hat_.cell 0, hat_.cell 1, HR.out⟩
              refine do_drop (i := 10) rfl (fun K hK => ?_) AllReadyH.nil
              go_simp
              obtain ⟨v37, hW_⟩ : ∃ y, v29.alloc (.cells #[.int .i64 0, .slice none 0 0] 24) = y := ⟨_, rfl⟩
              have f0 : Fr No v29 v37 := by rw [← hW_]; exact (Fr.refl _ _).alloc _
              obtain ⟨g38, hg_⟩ : ∃ y, v29.heap.size = y := ⟨_, rfl⟩
              have hat_ : At v37 g38 24 #[.int .i64 0, .slice none 0 0] := by rw [← hW_, ← hg_]; exact At.new _ _ _
              have HGE : Hid (w2.heap.size ≤ g38) := Lib.hid (by rw [← hg_]; exact HF.out.size)
              have HCE : Hid (g28 ≠ g38) := Lib.hid (by have := HCt.out.lt; omega)
              have HCt := Lib.hid (HCt.out.keep f0 (fun h => h))
              have HR := Lib.hid ((RowG.sub (T := (fun k => w2.heap.size ≤ k ∧ k ≠ g28 ∧ k ≠ g38)) HR.out (fun k hk h => ⟨h.1, h.2, by omega⟩)).keep f0 fun _ _ h => h)
              have HEt := Lib.hid hat_
              have HF := Lib.hid (HF.out.trans f0)
              rw [hW_, hg_]
              refine hK.out _ _ HF.out ?_
              clear hW_ hg_ f0 hat_ hK K
              try simp only [Act.put, List.setIfInBounds_toArray, List.set_cons_zero, List.set_cons_succ]
              refine wpAnyH_ready (rs := [8]) (by kernel_rfl) (by simp) ?_
              refine do_drop (i := 8) rfl (fun K hK => ?_) AllReadyH.nil
              obtain ⟨r40, v39, hrun_, hrow_, f1⟩ := RowG.moreO (l' := [x]) HR.out (some ⟨g28, 0, none⟩) 1 1 rfl (by omega) (ops_one HCt.out) (by omega)
              rw [if_pos (by rfl)]
              obtain ⟨a41, c42, hsh_, _⟩ := hrow_.form
              subst hsh_
              refine oper_append_run _ _ 22 rfl rfl rfl hrun_ ?_
              have eE := HEt.out.lt
              have eF := HF.out.size
              have HR := Lib.hid (RowG.sub (T := (fun k => w2.heap.size ≤ k ∧ k ≠ g38)) hrow_ (fun k hk h => by unfold Gr at h; (try dsimp only at h); omega))
              have HEt := Lib.hid (HEt.out.keep f1 (fun h => by (try dsimp only at h); omega))
              have HF := Lib.hid (HF.out.then_ f1 fun k hk h => by (try dsimp only at h); omega)
              clear eE eF
              refine hK.out _ _ HF.out ?_
              clear hrun_ hrow_ f1 hK K
              try simp only [Act.put, List.setIfInBounds_toArray, List.set_cons_zero, List.set_cons_succ]
              refine take_drop (i := 9) (v := .agg #[.int .i64 q, (.slice a41 (n + 1) c42)]) rfl (by kernel_rfl) (by kernel_rfl) (by kernel_rfl) (fun _ _ _ h => h) (Or.inl ⟨by rfl, fun wS hSw => by go_simp⟩) HF.out ?_
              simp only [Act.put, List.setIfInBounds_toArray, List.set_cons_zero, List.set_cons_succ]
              refine wpAnyH_ready (rs := [11]) (by kernel_rfl) (by simp) ?_
              refine do_drop (i := 11) rfl (fun K hK => ?_) AllReadyH.nil
              have hc0 := HEt.out.cell 0
              have hc1 := HEt.out.cell 1
              have hz0 := HEt.out.frozen 0
              have hz1 := HEt.out.frozen 1
              go_simp
              have eG := HGE.out
              have f1 : Fr (One g38) v39 ((v39.setCell ⟨g38, 0, none⟩ (.int .i64 q)).setCell ⟨g38, 1, none⟩ (.slice a41 (n + 1) c42)) := ((Fr.refl (One g38) v39).setCell (p := ⟨g38, 0, none⟩) (fun _ => rfl) _).setCell (p := ⟨g38, 1, none⟩) (fun _ => rfl) _
              have hat_ := (HEt.out.set_ 0 (.int .i64 q)).set_ 1 (.slice a41 (n + 1) c42)
              have HR := Lib.hid (HR.out.keep f1 fun k hk h => by unfold One at h; omega)
              have HF := Lib.hid (HF.out.then_ f1 fun k hk h => by unfold One at h; omega)
              refine hK.out _ _ HF.out ?_
              clear hK K
              try simp only [Act.put, List.setIfInBounds_toArray, List.set_cons_zero, List.set_cons_succ]
              refine wpAnyH_done (by kernel_rfl) ?_ _
              go_wp2_with fail
              go_meet
              case rel => exact ⟨g38, (.slice a41 (n + 1) c42), rfl, HF.out, HGE.out, hat_.cell 0, hat_.cell 1, HR.out⟩
            refine do_drop (i := 10) rfl (fun K hK => ?_) AllReadyH.nil
            go_simp
            obtain ⟨v43, hW_⟩ : ∃ y, v27.alloc (.cells #[.int .i64 0, .slice none 0 0] 24) = y := ⟨_, rfl⟩
            have f0 : Fr No v27 v43 := by rw [← hW_]; exact (Fr.refl _ _).alloc _
            obtain ⟨g44, hg_⟩ : ∃ y, v27.heap.size = y := ⟨_, rfl⟩
            have hat_ : At v43 g44 24 #[.int .i64 0, .slice none 0 0] := by rw [← hW_, ← hg_]; exact At.new _ _ _
            have HGE : Hid (w2.heap.size ≤ g44) := Lib.hid (by rw [← hg_]; exact HF.out.size)
            have HAE : Hid (g2 ≠ g44) := Lib.hid (by have := HAt.out.lt; omega)
            have HAt := Lib.hid (HAt.out.keep f0 (fun h => h))
            have HCE : Hid (g28 ≠ g44) := Lib.hid (by have := HCt.out.lt; omega)
            have HCt := Lib.hid (HCt.out.keep f0 (fun h => h))
            have HEt := Lib.hid hat_
            have HF := Lib.hid (HF.out.trans f0)
            rw [hW_, hg_]
            refine hK.out _ _ HF.out ?_
            clear hW_ hg_ f0 hat_ hK K
            try simp only [Act.put, List.setIfInBounds_toArray, List.set_cons_zero, List.set_cons_succ]
            refine wpAnyH_ready (rs := [5]) (by kernel_rfl) (by simp) ?_
            refine do_drop (i := 5) rfl (fun K hK => ?_) AllReadyH.nil
            obtain ⟨r46, v45, hrun_, hrow_, f1⟩ := RowG.moreO (l := []) (RowG.none_ HAt.out) a n ca HN.out (by omega) ((HB2.out.keep HF.out).ops).choose_spec (by omega)
            rw [Nat.zero_add, List.nil_append] at hrow_
            rw [if_pos (by rfl)]
            refine oper_append_run _ _ 22 rfl rfl rfl hrun_ ?_
            have eC := HCt.out.lt
            have dC := HAC.out
            have eE := HEt.out.lt
            have dE := HAE.out
            have eA := HGA.out
            have eF := HF.out.size
            have HR := Lib.hid (RowG.sub (T := (fun k => w2.heap.size ≤ k ∧ k ≠ g28 ∧ k ≠ g44)) hrow_ (fun k hk h => by unfold Gr One at h; (try dsimp only at h); omega))
            have HCt := Lib.hid (HCt.out.keep f1 (fun h => by unfold One at h; omega))
            have HEt := Lib.hid (HEt.out.keep f1 (fun h => by unfold One at h; omega))
            have HF := Lib.hid (HF.out.then_ f1 fun k hk h => by unfold One at h; omega)
            clear eC dC eE dE eA eF
            refine hK.out _ _ HF.out ?_
            clear hrun_ hrow_ f1 hK K
            try simp only [Act.put, List.setIfInBounds_toArray, List.set_cons_zero, List.set_cons_succ]
            refine wpAnyH_ready (rs := [8]) (by kernel_rfl) (by simp) ?_
            refine do_drop (i := 8) rfl (fun K hK => ?_) AllReadyH.nil
            obtain ⟨r48, v47, hrun_, hrow_, f1⟩ := RowG.moreO (l' := [x]) HR.out (some ⟨g28, 0, none⟩) 1 1 rfl (by omega) (ops_one HCt.out) (by omega)
            rw [if_pos (by rfl)]
            obtain ⟨a49, c50, hsh_, _⟩ := hrow_.form
            subst hsh_
            refine oper_append_run _ _ 22 rfl rfl rfl hrun_ ?_
            have eE := HEt.out.lt
            have eF := HF.out.size
            have HR := Lib.hid (RowG.sub (T := (fun k => w2.heap.size ≤ k ∧ k ≠ g44)) hrow_ (fun k hk h => by unfold Gr at h; (try dsimp only at h); omega))
            have HEt := Lib.hid (HEt.out.keep f1 (fun h => by (try dsimp only at h); omega))
            have HF := Lib.hid (HF.out.then_ f1 fun k hk h => by (try dsimp only at h); omega)
            clear eE eF
            refine hK.out _ _ HF.out ?_
            clear hrun_ hrow_ f1 hK K
            try simp only [Act.put, List.setIfInBounds_toArray, List.set_cons_zero, List.set_cons_succ]
            refine take_drop (i := 9) (v := .agg #[.int .i64 q, (.slice a49 (n + 1) c50)]) rfl (by kernel_rfl) (by kernel_rfl) (by kernel_rfl) (fun _ _ _ h => h) (Or.inl ⟨by rfl, fun wS hSw => by go_simp⟩) HF.out ?_
            simp only [Act.put, List.setIfInBounds_toArray, List.set_cons_zero, List.set_cons_succ]
            refine wpAnyH_ready (rs := [11]) (by kernel_rfl) (by simp) ?_
            refine do_drop (i := 11) rfl (fun K hK => ?_) AllReadyH.nil
            have hc0 := HEt.out.cell 0
            have hc1 := HEt.out.cell 1
            have hz0 := HEt.out.frozen 0
            have hz1 := HEt.out.frozen 1
            go_simp
            have eG := HGE.out
            have f1 : Fr (One g44) v47 ((v47.setCell ⟨g44, 0, none⟩ (.int .i64 q)).setCell ⟨g44, 1, none⟩ (.slice a49 (n + 1) c50)) := ((Fr.refl (One g44) v47).setCell (p := ⟨g44, 0, none⟩) (fun _ => rfl) _).setCell (p := ⟨g44, 1, none⟩) (fun _ => rfl) _
            have hat_ := (HEt.out.set_ 0 (.int .i64 q)).set_ 1 (.slice a49 (n + 1) c50)
            have HR := Lib.hid (HR.out.keep f1 fun k hk h => by unfold One at h; omega)
            have HF := Lib.hid (HF.out.then_ f1 fun k hk h => by unfold One at h; omega)
            refine hK.out _ _ HF.out ?_
            clear hK K
            try simp only [Act.put, List.setIfInBounds_toArray, List.set_cons_zero, List.set_cons_succ]
            refine wpAnyH_done (by kernel_rfl) ?_ _
            go_wp2_with fail
            go_meet
            case rel => exact ⟨g44, (.slice a49 (n + 1) c50), rfl, HF.out, HGE.out, hat_.cell 0, hat_.cell 1, HR.out⟩
          refine do_drop (i := 10) rfl (fun K hK => ?_) AllReadyH.nil
          go_simp
          obtain ⟨v51, hW_⟩ : ∃ y, v1.alloc (.cells #[.int .i64 0, .slice none 0 0] 24) = y := ⟨_, rfl⟩
          have f0 : Fr No v1 v51 := by rw [← hW_]; exact (Fr.refl _ _).alloc _
          obtain ⟨g52, hg_⟩ : ∃ y, v1.heap.size = y := ⟨_, rfl⟩
          have hat_ : At v51 g52 24 #[.int .i64 0, .slice none 0 0] := by rw [← hW_, ← hg_]; exact At.new _ _ _
          have HGE : Hid (w2.heap.size ≤ g52) := Lib.hid (by rw [← hg_]; exact HF.out.size)
          have HAE : Hid (g2 ≠ g52) := Lib.hid (by have := HAt.out.lt; omega)
          have HAt := Lib.hid (HAt.out.keep f0 (fun h => h))
          have HEt := Lib.hid hat_
          have HF := Lib.hid (HF.out.trans f0)
          rw [hW_, hg_]
          refine hK.out _ _ HF.out ?_
          clear hW_ hg_ f0 hat_ hK K
          try simp only [Act.put, List.setIfInBounds_toArray, List.set_cons_zero, List.set_cons_succ]
          refine wpAnyH_ready (rs := [5, 7]) (by kernel_rfl) (by simp) ?_
          refine do_drop (i := 5) rfl (fun K hK => ?_) ?_
          · obtain ⟨r54, v53, hrun_, hrow_, f1⟩ := RowG.moreO (l := []) (RowG.none_ HAt.out) a n ca HN.out (by omega) ((HB2.out.keep HF.out).ops).choose_spec (by omega)
            rw [Nat.zero_add, List.nil_append] at hrow_
            rw [if_pos (by rfl)]
            refine oper_append_run _ _ 22 rfl rfl rfl hrun_ ?_
            have eE := HEt.out.lt
            have dE := HAE.out
            have eA := HGA.out
            have eF := HF.out.size
            have HR := Lib.hid (RowG.sub (T := (fun k => w2.heap.size ≤ k ∧ k ≠ g52)) hrow_ (fun k hk h => by unfold Gr One at h; (try dsimp only at h); omega))
            have HEt := Lib.hid (HEt.out.keep f1 (fun h => by unfold One at h; omega))
            have HF := Lib.hid (HF.out.then_ f1 fun k hk h => by unfold One at h; omega)
            clear eE dE eA eF
            refine hK.out _ _ HF.out ?_
            clear hrun_ hrow_ f1 hK K
            try simp only [Act.put, List.setIfInBounds_toArray, List.set_cons_zero, List.set_cons_succ]
            refine wpAnyH_ready (rs := [7]) (by kernel_rfl) (by simp) ?_
            refine do_drop (i := 7) rfl (fun K hK => ?_) AllReadyH.nil
            go_simp
            obtain ⟨v55, hW_⟩ : ∃ y, v53.alloc (.cells #[.int .i64 x.k, .string x.key, .string x.val] 30) = y := ⟨_, rfl⟩
            have f0 : Fr No v53 v55 := by rw [← hW_]; exact (Fr.refl _ _).alloc _
            obtain ⟨g56, hg_⟩ : ∃ y, v53.heap.size = y := ⟨_, rfl⟩
            have hat_ : At v55 g56 30 #[.int .i64 x.k, .string x.key, .string x.val] := by rw [← hW_, ← hg_]; exact At.new _ _ _
            have HGC : Hid (w2.heap.size ≤ g56) := Lib.hid (by rw [← hg_]; exact HF.out.size)
            have HEC : Hid (g52 ≠ g56) := Lib.hid (by have := HEt.out.lt; omega)
            have HEt := Lib.hid (HEt.out.keep f0 (fun h => h))
            have HR := Lib.hid ((RowG.sub (T := (fun k => w2.heap.size ≤ k ∧ k ≠ g56 ∧ k ≠ g52)) HR.out (fun k hk h => ⟨h.1, by omega, h.2⟩)).keep f0 fun _ _ h => h)
            have HCt := Lib.hid hat_
            have HF := Lib.hid (HF.out.trans f0)
            rw [hW_, hg_]
            refine hK.out _ _ HF.out ?_
            clear hW_ hg_ f0 hat_ hK K
            try simp only [Act.put, List.setIfInBounds_toArray, List.set_cons_zero, List.set_cons_succ]
            refine wpAnyH_ready (rs := [8]) (by kernel_rfl) (by simp) ?_
            refine do_drop (i := 8) rfl (fun K hK => ?_) AllReadyH.nil
            obtain ⟨r58, v57, hrun_, hrow_, f1⟩ := RowG.moreO (l' := [x]) HR.out (some ⟨g56, 0, none⟩) 1 1 rfl (by omega) (ops_one HCt.out) (by omega)
            rw [if_pos (by rfl)]
            obtain ⟨a59, c60, hsh_, _⟩ := hrow_.form
            subst hsh_
            refine oper_append_run _ _ 22 rfl rfl rfl hrun_ ?_
            have eE := HEt.out.lt
            have eF := HF.out.size
            have HR := Lib.hid (RowG.sub (T := (fun k => w2.heap.size ≤ k ∧ k ≠ g52)) hrow_ (fun k hk h => by unfold Gr at h; (try dsimp only at h); omega))
            have HEt := Lib.hid (HEt.out.keep f1 (fun h => by (try dsimp only at h); omega))
            have HF := Lib.hid (HF.out.then_ f1 fun k hk h => by (try dsimp only at h); omega)
            clear eE eF
            refine hK.out _ _ HF.out ?_
            clear hrun_ hrow_ f1 hK K
            try simp only [Act.put, List.setIfInBounds_toArray, List.set_cons_zero, List.set_cons_succ]
            refine take_drop (i := 9) (v := .agg #[.int .i64 q, (.slice a59 (n + 1) c60)]) rfl (by kernel_rfl) (by kernel_rfl) (by kernel_rfl) (fun _ _ _ h => h) (Or.inl ⟨by rfl, fun wS hSw => by go_simp⟩) HF.out ?_
            simp only [Act.put, List.setIfInBounds_toArray, List.set_cons_zero, List.set_cons_succ]
            refine wpAnyH_ready (rs := [11]) (by kernel_rfl) (by simp) ?_
            refine do_drop (i := 11) rfl (fun K hK => ?_) AllReadyH.nil
            have hc0 := HEt.out.cell 0
            have hc1 := HEt.out.cell 1
            have hz0 := HEt.out.frozen 0
            have hz1 := HEt.out.frozen 1
            go_simp
            have eG := HGE.out
            have f1 : Fr (One g52) v57 ((v57.setCell ⟨g52, 0, none⟩ (.int .i64 q)).setCell ⟨g52, 1, none⟩ (.slice a59 (n + 1) c60)) := ((Fr.refl (One g52) v57).setCell (p := ⟨g52, 0, none⟩) (fun _ => rfl) _).setCell (p := ⟨g52, 1, none⟩) (fun _ => rfl) _
            have hat_ := (HEt.out.set_ 0 (.int .i64 q)).set_ 1 (.slice a59 (n + 1) c60)
            have HR := Lib.hid (HR.out.keep f1 fun k hk h => by unfold One at h; omega)
            have HF := Lib.hid (HF.out.then_ f1 fun k hk h => by unfold One at h; omega)
            refine hK.out _ _ HF.out ?_
            clear hK K
            try simp only [Act.put, List.setIfInBounds_toArray, List.set_cons_zero, List.set_cons_succ]
            refine wpAnyH_done (by kernel_rfl) ?_ _
            go_wp2_with fail
            go_meet
            case rel => exact ⟨g52, (.slice a59 (n + 1) c60), rfl, HF.out, HGE.out, hat_.cell 0, hat_.cell 1, HR.out⟩
          refine do_drop (i := 7) rfl (fun K hK => ?_) AllReadyH.nil
          go_simp
          obtain ⟨v61, hW_⟩ : ∃ y, v51.alloc (.cells #[.int .i64 x.k, .string x.key, .string x.val] 30) = y := ⟨_, rfl⟩
          have f0 : Fr No v51 v61 := by rw [← hW_]; exact (Fr.refl _ _).alloc _
          obtain ⟨g62, hg_⟩ : ∃ y, v51.heap.size = y := ⟨_, rfl⟩
          have hat_ : At v61 g62 30 #[.int .i64 x.k, .string x.key, .string x.val] := by rw [← hW_, ← hg_]; exact At.new _ _ _
          have HGC : Hid (w2.heap.size ≤ g62) := Lib.hid (by rw [← hg_]; exact HF.out.size)
          have HAC : Hid (g2 ≠ g62) := Lib.hid (by have := HAt.out.lt; omega)
          have HAt := Lib.hid (HAt.out.keep f0 (fun h => h))
          have HEC : Hid (g52 ≠ g62) := Lib.hid (by have := HEt.out.lt; omega)
          have HEt := Lib.hid (HEt.out.keep f0 (fun h => h))
          have HCt := Lib.hid hat_
          have HF := Lib.hid (HF.out.trans f0)
          rw [hW_, hg_]
          refine hK.out _ _ HF.out ?_
          clear hW_ hg_ f0 hat_ hK K
          try simp only [Act.put, List.setIfInBounds_toArray, List.set_cons_zero, List.set_cons_succ]
          refine wpAnyH_ready (rs := [5]) (by kernel_rfl) (by simp) ?_
          refine do_drop (i := 5) rfl (fun K hK => ?_) AllReadyH.nil
          obtain ⟨r64, v63, hrun_, hrow_, f1⟩ := RowG.moreO (l := []) (RowG.none_ HAt.out) a n ca HN.out (by omega) ((HB2.out.keep HF.out).ops).choose_spec (by omega)
          rw [Nat.zero_add, List.nil_append] at hrow_
          rw [if_pos (by rfl)]
          refine oper_append_run _ _ 22 rfl rfl rfl hrun_ ?_
          have eC := HCt.out.lt
          have dC := HAC.out
          have eE := HEt.out.lt
          have dE := HAE.out
          have eA := HGA.out
          have eF := HF.out.size
          have HR := Lib.hid (RowG.sub (T := (fun k => w2.heap.size ≤ k ∧ k ≠ g62 ∧ k ≠ g52)) hrow_ (fun k hk h => by unfold Gr One at h; (try dsimp only at h); omega))
          have HCt := Lib.hid (HCt.out.keep f1 (fun h => by unfold One at h; omega))
          have HEt := Lib.hid (HEt.out.keep f1 (fun h => by unfold One at h; omega))
          have HF := Lib.hid (HF.out.then_ f1 fun k hk h => by unfold One at h; omega)
          clear eC dC eE dE eA eF
          refine hK.out _ _ HF.out ?_
          clear hrun_ hrow_ f1 hK K
          try simp only [Act.put, List.setIfInBounds_toArray, List.set_cons_zero, List.set_cons_succ]
          refine wpAnyH_ready (rs := [8]) (by kernel_rfl) (by simp) ?_
          refine do_drop (i := 8) rfl (fun K hK => ?_) AllReadyH.nil
          obtain ⟨r66, v65, hrun_, hrow_, f1⟩ := RowG.moreO (l' := [x]) HR.out (some ⟨g62, 0, none⟩) 1 1 rfl (by omega) (ops_one HCt.out) (by omega)
          rw [if_pos (by rfl)]
          obtain ⟨a67, c68, hsh_, _⟩ := hrow_.form
          subst hsh_
          refine oper_append_run _ _ 22 rfl rfl rfl hrun_ ?_
          have eE := HEt.out.lt
          have eF := HF.out.size
          have HR := Lib.hid (RowG.sub (T := (fun k => w2.heap.size ≤ k ∧ k ≠ g52)) hrow_ (fun k hk h => by unfold Gr at h; (try dsimp only at h); omega))
          have HEt := Lib.hid (HEt.out.keep f1 (fun h => by (try dsimp only at h); omega))
          have HF := Lib.hid (HF.out.then_ f1 fun k hk h => by (try dsimp only at h); omega)
          clear eE eF
          refine hK.out _ _ HF.out ?_
          clear hrun_ hrow_ f1 hK K
          try simp only [Act.put, List.setIfInBounds_toArray, List.set_cons_zero, List.set_cons_succ]
          refine take_drop (i := 9) (v := .agg #[.int .i64 q, (.slice a67 (n + 1) c68)]) rfl (by kernel_rfl) (by kernel_rfl) (by kernel_rfl) (fun _ _ _ h => h) (Or.inl ⟨by rfl, fun wS hSw => by go_simp⟩) HF.out ?_
          simp only [Act.put, List.setIfInBounds_toArray, List.set_cons_zero, List.set_cons_succ]
          refine wpAnyH_ready (rs := [11]) (by kernel_rfl) (by simp) ?_
          refine do_drop (i := 11) rfl (fun K hK => ?_) AllReadyH.nil
          have hc0 := HEt.out.cell 0
          have hc1 := HEt.out.cell 1
          have hz0 := HEt.out.frozen 0
          have hz1 := HEt.out.frozen 1
          go_simp
          have eG := HGE.out
          have f1 : Fr (One g52) v65 ((v65.setCell ⟨g52, 0, none⟩ (.int .i64 q)).setCell ⟨g52, 1, none⟩ (.slice a67 (n + 1) c68)) := ((Fr.refl (One g52) v65).setCell (p := ⟨g52, 0, none⟩) (fun _ => rfl) _).setCell (p := ⟨g52, 1, none⟩) (fun _ => rfl) _
          have hat_ := (HEt.out.set_ 0 (.int .i64 q)).set_ 1 (.slice a67 (n + 1) c68)
          have HR := Lib.hid (HR.out.keep f1 fun k hk h => by unfold One at h; omega)
          have HF := Lib.hid (HF.out.then_ f1 fun k hk h => by unfold One at h; omega)
          refine hK.out _ _ HF.out ?_
          clear hK K
          try simp only [Act.put, List.setIfInBounds_toArray, List.set_cons_zero, List.set_cons_succ]
          refine wpAnyH_done (by kernel_rfl) ?_ _
          go_wp2_with fail
          go_meet
          case rel => exact ⟨g52, (.slice a67 (n + 1) c68), rfl, HF.out, HGE.out, hat_.cell 0, hat_.cell 1, HR.out⟩
        refine do_drop (i := 7) rfl (fun K hK => ?_) ?_
        · go_simp
          obtain ⟨v69, hW_⟩ : ∃ y, wR.alloc (.cells #[.int .i64 x.k, .string x.key, .string x.val] 30) = y := ⟨_, rfl⟩
          have f0 : Fr No wR v69 := by rw [← hW_]; exact (Fr.refl _ _).alloc _
          obtain ⟨g70, hg_⟩ : ∃ y, wR.heap.size = y := ⟨_, rfl⟩
          have hat_ : At v69 g70 30 #[.int .i64 x.k, .string x.key, .string x.val] := by rw [← hW_, ← hg_]; exact At.new _ _ _
          have HGC : Hid (w2.heap.size ≤ g70) := Lib.hid (by rw [← hg_]; exact HF.out.size)
          have HCt := Lib.hid hat_
          have HF := Lib.hid (HF.out.trans f0)
          rw [hW_, hg_]
          refine hK.out _ _ HF.out ?_
          clear hW_ hg_ f0 hat_ hK K
          try simp only [Act.put, List.setIfInBounds_toArray, List.set_cons_zero, List.set_cons_succ]
          refine wpAnyH_ready (rs := [2, 10]) (by kernel_rfl) (by simp) ?_
          refine do_drop (i := 2) rfl (fun K hK => ?_) ?_
          · go_simp
            obtain ⟨v71, hW_⟩ : ∃ y, v69.alloc (.cells #[] 30) = y := ⟨_, rfl⟩
            have f0 : Fr No v69 v71 := by rw [← hW_]; exact (Fr.refl _ _).alloc _
            obtain ⟨g72, hg_⟩ : ∃ y, v69.heap.size = y := ⟨_, rfl⟩
            have hat_ : At v71 g72 30 #[] := by rw [← hW_, ← hg_]; exact At.new _ _ _
            have HGA : Hid (w2.heap.size ≤ g72) := Lib.hid (by rw [← hg_]; exact HF.out.size)
            have HCA : Hid (g70 ≠ g72) := Lib.hid (by have := HCt.out.lt; omega)
            have HCt := Lib.hid (HCt.out.keep f0 (fun h => h))
            have HAt := Lib.hid hat_
            have HF := Lib.hid (HF.out.trans f0)
            rw [hW_, hg_]
            refine hK.out _ _ HF.out ?_
            clear hW_ hg_ f0 hat_ hK K
            try simp only [Act.put, List.setIfInBounds_toArray, List.set_cons_zero, List.set_cons_succ]
            refine wpAnyH_ready (rs := [5, 10]) (by kernel_rfl) (by simp) ?_
            refine do_drop (i := 5) rfl (fun K hK => ?_) ?_
            · obtain ⟨r74, v73, hrun_, hrow_, f1⟩ := RowG.moreO (l := []) (RowG.none_ HAt.out) a n ca HN.out (by omega) ((HB2.out.keep HF.out).ops).choose_spec (by omega)
              rw [Nat.zero_add, List.nil_append] at hrow_
              rw [if_pos (by rfl)]
              refine oper_append_run _ _ 22 rfl rfl rfl hrun_ ?_
              have eC := HCt.out.lt
              have dC := HCA.out
              have eA := HGA.out
              have eF := HF.out.size
              have HR := Lib.hid (RowG.sub (T := (fun k => w2.heap.size ≤ k ∧ k ≠ g70)) hrow_ (fun k hk h => by unfold Gr One at h; (try dsimp only at h); omega))
              have HCt := Lib.hid (HCt.out.keep f1 (fun h => by unfold One at h; omega))
              have HF := Lib.hid (HF.out.then_ f1 fun k hk h => by unfold One at h; omega)
              clear eC dC eA eF
              refine hK.out _ _ HF.out ?_
              clear hrun_ hrow_ f1 hK K
              try simp only [Act.put, List.setIfInBounds_toArray, List.set_cons_zero, List.set_cons_succ]
              refine wpAnyH_ready (rs := [8, 10]) (by kernel_rfl) (by simp) ?_
              refine do_drop (i := 8) rfl (fun K hK => ?_) ?_
              · obtain ⟨r76, v75, hrun_, hrow_, f1⟩ := RowG.moreO (l' := [x]) HR.out (some ⟨g70, 0, none⟩) 1 1 rfl (by omega) (ops_one HCt.out) (by omega)
                rw [if_pos (by rfl)]
                obtain ⟨a77, c78, hsh_, _⟩ := hrow_.form
                subst hsh_
                refine oper_append_run _ _ 22 rfl rfl rfl hrun_ ?_
                have eF := HF.out.size
                have HR := Lib.hid (RowG.sub (T := (fun k => w2.heap.size ≤ k)) hrow_ (fun k hk h => by unfold Gr at h; (try dsimp only at h); omega))
                have HF := Lib.hid (HF.out.then_ f1 fun k hk h => by (try dsimp only at h); omega)
                clear eF
                refine hK.out _ _ HF.out ?_
                clear hrun_ hrow_ f1 hK K
                try simp only [Act.put, List.setIfInBounds_toArray, List.set_cons_zero, List.set_cons_succ]
                refine take_drop (i := 9) (v := .agg #[.int .i64 q, (.slice a77 (n + 1) c78)]) rfl (by kernel_rfl) (by kernel_rfl) (by kernel_rfl) (fun _ _ _ h => h) (Or.inl ⟨by rfl, fun wS hSw => by go_simp⟩) HF.out ?_
                simp only [Act.put, List.setIfInBounds_toArray, List.set_cons_zero, List.set_cons_succ]
                refine wpAnyH_ready (rs := [10]) (by kernel_rfl) (by simp) ?_
                refine do_drop (i := 10) rfl (fun K hK => ?_) AllReadyH.nil
                go_simp
                obtain ⟨v79, hW_⟩ : ∃ y, v75.alloc (.cells #[.int .i64 0, .slice none 0 0] 24) = y := ⟨_, rfl⟩
                have f0 : Fr No v75 v79 := by rw [← hW_]; exact (Fr.refl _ _).alloc _
                obtain ⟨g80, hg_⟩ : ∃ y, v75.heap.size = y := ⟨_, rfl⟩
                have hat_ : At v79 g80 24 #[.int .i64 0, .slice none 0 0] := by rw [← hW_, ← hg_]; exact At.new _ _ _
                have HGE : Hid (w2.heap.size ≤ g80) := Lib.hid (by rw [← hg_]; exact HF.out.size)
                have HR := Lib.hid ((RowG.sub (T := (fun k => w2.heap.size ≤ k ∧ k ≠ g80)) HR.out (fun k hk h => ⟨h, by omega⟩)).keep f0 fun _ _ h => h)
                have HEt := Lib.hid hat_
                have HF := Lib.hid (HF.out.trans f0)
                rw [hW_, hg_]
                refine hK.out _ _ HF.out ?_
                clear hW_ hg_ f0 hat_ hK K
                try simp only [Act.put, List.setIfInBounds_toArray, List.set_cons_zero, List.set_cons_succ]
                refine wpAnyH_ready (rs := [11]) (by kernel_rfl) (by simp) ?_
                refine do_drop (i := 11) rfl (fun K hK => ?_) AllReadyH.nil
                have hc0 := HEt.out.cell 0
                have hc1 := HEt.out.cell 1
                have hz0 := HEt.out.frozen 0
                have hz1 := HEt.out.frozen 1
                go_simp
                have eG := HGE.out
                have f1 : Fr (One g80) v79 ((v79.setCell ⟨g80, 0, none⟩ (.int .i64 q)).setCell ⟨g80, 1, none⟩ (.slice a77 (n + 1) c78)) := ((Fr.refl (One g80) v79).setCell (p := ⟨g80, 0, none⟩) (fun _ => rfl) _).setCell (p := ⟨g80, 1, none⟩) (fun _ => rfl) _
                have hat_ := (HEt.out.set_ 0 (.int .i64 q)).set_ 1 (.slice a77 (n + 1) c78)
                have HR := Lib.hid (HR.out.keep f1 fun k hk h => by unfold One at h; omega)
                have HF := Lib.hid (HF.out.then_ f1 fun k hk h => by unfold One at h; omega)
                refine hK.out _ _ HF.out ?_
                clear hK K
                try simp only [Act.put, List.setIfInBounds_toArray, List.set_cons_zero, List.set_cons_succ]
                refine wpAnyH_done (by kernel_rfl) ?_ _
                go_wp2_with fail
                go_meet
                case rel => exact ⟨g80, (.slice a77 (n + 1) c78), rfl, HF.out, HGE.out, hat_.cell 0, hat_.cell 1, HR.out⟩
              refine do_drop (i := 10) rfl (fun K hK => ?_) AllReadyH.nil
              go_simp
              obtain ⟨v81, hW_⟩ : ∃ y, v73.alloc (.cells #[.int .i64 0, .slice none 0 0] 24) = y := ⟨_, rfl⟩
              have f0 : Fr No v73 v81 := by rw [← hW_]; exact (Fr.refl _ _).alloc _
              obtain ⟨g82, hg_⟩ : ∃ y, v73.heap.size = y := ⟨_, rfl⟩
              have hat_ : At v81 g82 24 #[.int .i64 0, .slice none 0 0] := by rw [← hW_, ← hg_]; exact At.new _ _ _
              have HGE : Hid (w2.heap.size ≤ g82) := Lib.hid (by rw [← hg_]; exact HF.out.size)
              have HCE : Hid (g70 ≠ g82) := Lib.hid (by have := HCt.out.lt; omega)
              have HCt := Lib.hid (HCt.out.keep f0 (fun h => h))
              have HR := Lib.hid ((RowG.sub (T := (fun k => w2.heap.size ≤ k ∧ k ≠ g70 ∧ k ≠ g82)) HR.out (fun k hk h => ⟨h.1, h.2, by omega⟩)).keep f0 fun _ _ h => h)
              have HEt := Lib.hid hat_
              have HF := Lib.hid (HF.out.trans f0)
              rw [hW_, hg_]
              refine hK.out _ _ HF.out ?_
              clear hW_ hg_ f0 hat_ hK K
              try simp only [Act.put, List.setIfInBounds_toArray, List.set_cons_zero, List.set_cons_succ]
              refine wpAnyH_ready (rs := [8]) (by kernel_rfl) (by simp) ?_
              refine do_drop (i := 8) rfl (fun K hK => ?_) AllReadyH.nil
              obtain ⟨r84, v83, hrun_, hrow_, f1⟩ := RowG.moreO (l' := [x]) HR.out (some ⟨g70, 0, none⟩) 1 1 rfl (by omega) (ops_one HCt.out) (by omega)
              rw [if_pos (by rfl)]
              obtain ⟨a85, c86, hsh_, _⟩ := hrow_.form
              subst hsh_
              refine oper_append_run _ _ 22 rfl rfl rfl hrun_ ?_
              have eE := HEt.out.lt
              have eF := HF.out.size
              have HR := Lib.hid (RowG.sub (T := (fun k => w2.heap.size ≤ k ∧ k ≠ g82)) hrow_ (fun k hk h => by unfold Gr at h; (try dsimp only at h); omega))
              have HEt := Lib.hid (HEt.out.keep f1 (fun h => by (try dsimp only at h); omega))
              have HF := Lib.hid (HF.out.then_ f1 fun k hk h => by (try dsimp only at h); omega)
              clear eE eF
              refine hK.out _ _ HF.out ?_
              clear hrun_ hrow_ f1 hK K
              try simp only [Act.put, List.setIfInBounds_toArray, List.set_cons_zero, List.set_cons_succ]
              refine take_drop (i := 9) (v := .agg #[.int .i64 q, (.slice a85 (n + 1) c86)]) rfl (by kernel_rfl) (by kernel_rfl) (by kernel_rfl) (fun _ _ _ h => h) (Or.inl ⟨by rfl, fun wS hSw => by go_simp⟩) HF.out ?_
              simp only [Act.put, List.setIfInBounds_toArray, List.set_cons_zero, List.set_cons_succ]
              refine wpAnyH_ready (rs := [11]) (by kernel_rfl) (by simp) ?_
              refine do_drop (i := 11) rfl (fun K hK => ?_) AllReadyH.nil
              have hc0 := HEt.out.cell 0
              have hc1 := HEt.out.cell 1
              have hz0 := HEt.out.frozen 0
              have hz1 := HEt.out.frozen 1
              go_simp
              have eG := HGE.out
              have f1 : Fr (One g82) v83 ((v83.setCell ⟨g82, 0, none⟩ (.int .i64 q)).setCell ⟨g82, 1, none⟩ (.slice a85 (n + 1) c86)) := ((Fr.refl (One g82) v83).setCell (p := ⟨g82, 0, none⟩) (fun _ => rfl) _).setCell (p := ⟨g82, 1, none⟩) (fun _ => rfl) _
              have hat_ := (HEt.out.set_ 0 (.int .i64 q)).set_ 1 (.slice a85 (n + 1) c86)
              have HR := Lib.hid (HR.out.keep f1 fun k hk h => by unfold One at h; omega)
              have HF := Lib.hid (HF.out.then_ f1 fun k hk h => by unfold One at h; omega)
              refine hK.out _ _ HF.out ?_
              clear hK K
              try simp only [Act.put, List.setIfInBounds_toArray, List.set_cons_zero, List.set_cons_succ]
              refine wpAnyH_done (by kernel_rfl) ?_ _
              go_wp2_with fail
              go_meet
              case rel => exact ⟨g82, (.slice a85 (n + 1) c86), rfl, HF.out, HGE.out, hat_.cell 0, hat_.cell 1, HR.out⟩
            refine do_drop (i := 10) rfl (fun K hK => ?_) AllReadyH.nil
            go_simp
            obtain ⟨v87, hW_⟩ : ∃ y, v71.alloc (.cells #[.int .i64 0, .slice none 0 0] 24) = y := ⟨_, rfl⟩
            have f0 : Fr No v71 v87 := by rw [← hW_]; exact (Fr.refl _ _).alloc _
            obtain ⟨g88, hg_⟩ : ∃ y, v71.heap.size = y := ⟨_, rfl⟩
            have hat_ : At v87 g88 24 #[.int .i64 0, .slice none 0 0] := by rw [← hW_, ← hg_]; exact At.new _ _ _
            have HGE : Hid (w2.heap.size ≤ g88) := Lib.hid (by rw [← hg_]; exact HF.out.size)
            have HAE : Hid (g72 ≠ g88) := Lib.hid (by have := HAt.out.lt; omega)
            have HAt := Lib.hid (HAt.out.keep f0 (fun h => h))
            have HCE : Hid (g70 ≠ g88) := Lib.hid (by have := HCt.out.lt; omega)
            have HCt := Lib.hid (HCt.out.keep f0 (fun h => h))
            have HEt := Lib.hid hat_
            have HF := Lib.hid (HF.out.trans f0)
            rw [hW_, hg_]
            refine hK.out _ _ HF.out ?_
            clear hW_ hg_ f0 hat_ hK K
            try simp only [Act.put, List.setIfInBounds_toArray, List.set_cons_zero, List.set_cons_succ]
            refine wpAnyH_ready (rs := [5]) (by kernel_rfl) (by simp) ?_
            refine do_drop (i := 5) rfl (fun K hK => ?_) AllReadyH.nil
            obtain ⟨r90, v89, hrun_, hrow_, f1⟩ := RowG.moreO (l := []) (RowG.none_ HAt.out) a n ca HN.out (by omega) ((HB2.out.keep HF.out).ops).choose_spec (by omega)
            rw [Nat.zero_add, List.nil_append] at hrow_
            rw [if_pos (by rfl)]
            refine oper_append_run _ _ 22 rfl rfl rfl hrun_ ?_
            have eC := HCt.out.lt
            have dC := HCA.out
            have eE := HEt.out.lt
            have dE := HAE.out
            have eA := HGA.out
            have eF := HF.out.size
            have HR := Lib.hid (RowG.sub (T := (fun k => w2.heap.size ≤ k ∧ k ≠ g70 ∧ k ≠ g88)) hrow_ (fun k hk h => by unfold Gr One at h; (try dsimp only at h); omega))
            have HCt := Lib.hid (HCt.out.keep f1 (fun h => by unfold One at h; omega))
            have HEt := Lib.hid (HEt.out.keep f1 (fun h => by unfold One at h; omega))
            have HF := Lib.hid (HF.out.then_ f1 fun k hk h => by unfold One at h; omega)
            clear eC dC eE dE eA eF
            refine hK.out _ _ HF.out ?_
            clear hrun_ hrow_ f1 hK K
            try simp only [Act.put, List.setIfInBounds_toArray, List.set_cons_zero, List.set_cons_succ]
            refine wpAnyH_ready (rs := [8]) (by kernel_rfl) (by simp) ?_
            refine do_drop (i := 8) rfl (fun K hK => ?_) AllReadyH.nil
            obtain ⟨r92, v91, hrun_, hrow_, f1⟩ := RowG.moreO (l' := [x]) HR.out (some ⟨g70, 0, none⟩) 1 1 rfl (by omega) (ops_one HCt.out) (by omega)
            rw [if_pos (by rfl)]
            obtain ⟨a93, c94, hsh_, _⟩ := hrow_.form
            subst hsh_
            refine oper_append_run _ _ 22 rfl rfl rfl hrun_ ?_
            have eE := HEt.out.lt
            have eF := HF.out.size
            have HR := Lib.hid (RowG.sub (T := (fun k => w2.heap.size ≤ k ∧ k ≠ g88)) hrow_ (fun k hk h => by unfold Gr at h; (try dsimp only at h); omega))
            have HEt := Lib.hid (HEt.out.keep f1 (fun h => by (try dsimp only at h); omega))
            have HF := Lib.hid (HF.out.then_ f1 fun k hk h => by (try dsimp only at h); omega)
            clear eE eF
            refine hK.out _ _ HF.out ?_
            clear hrun_ hrow_ f1 hK K
            try simp only [Act.put, List.setIfInBounds_toArray, List.set_cons_zero, List.set_cons_succ]
            refine take_drop (i := 9) (v := .agg #[.int .i64 q, (.slice a93 (n + 1) c94)]) rfl (by kernel_rfl) (by kernel_rfl) (by kernel_rfl) (fun _ _ _ h => h) (Or.inl ⟨by rfl, fun wS hSw => by go_simp⟩) HF.out ?_
            simp only [Act.put, List.setIfInBounds_toArray, List.set_cons_zero, List.set_cons_succ]
            refine wpAnyH_ready (rs := [11]) (by kernel_rfl) (by simp) ?_
            refine do_drop (i := 11) rfl (fun K hK => ?_) AllReadyH.nil
            have hc0 := HEt.out.cell 0
            have hc1 := HEt.out.cell 1
            have hz0 := HEt.out.frozen 0
            have hz1 := HEt.out.frozen 1
            go_simp
            have eG := HGE.out
            have f1 : Fr (One g88) v91 ((v91.setCell ⟨g88, 0, none⟩ (.int .i64 q)).setCell ⟨g88, 1, none⟩ (.slice a93 (n + 1) c94)) := ((Fr.refl (One g88) v91).setCell (p := ⟨g88, 0, none⟩) (fun _ => rfl) _).setCell (p := ⟨g88, 1, none⟩) (fun _ => rfl) _
            have hat_ := (HEt.out.set_ 0 (.int .i64 q)).set_ 1 (.slice a93 (n + 1) c94)
            have HR := Lib.hid (HR.out.keep f1 fun k hk h => by unfold One at h; omega)
            have HF := Lib.hid (HF.out.then_ f1 fun k hk h => by unfold One at h; omega)
            refine hK.out _ _ HF.out ?_
            clear hK K
            try simp only [Act.put, List.setIfInBounds_toArray, List.set_cons_zero, List.set_cons_succ]
            refine wpAnyH_done (by kernel_rfl) ?_ _
            go_wp2_with fail
            go_meet
            case rel => exact ⟨g88, (.slice a93 (n + 1) c94), rfl, HF.out, HGE.out, hat_.cell 0, hat_.cell 1, HR.out⟩
          refine do_drop (i := 10) rfl (fun K hK => ?_) AllReadyH.nil
          go_simp
          obtain ⟨v95, hW_⟩ : ∃ y, v69.alloc (.cells #[.int .i64 0, .slice none 0 0] 24) = y := ⟨_, rfl⟩
          have f0 : Fr No v69 v95 := by rw [← hW_]; exact (Fr.refl _ _).alloc _
          obtain ⟨g96, hg_⟩ : ∃ y, v69.heap.size = y := ⟨_, rfl⟩
          have hat_ : At v95 g96 24 #[.int .i64 0, .slice none 0 0] := by rw [← hW_, ← hg_]; exact At.new _ _ _
          have HGE : Hid (w2.heap.size ≤ g96) := Lib.hid (by rw [← hg_]; exact HF.out.size)
          have HCE : Hid (g70 ≠ g96) := Lib.hid (by have := HCt.out.lt; omega)
          have HCt := Lib.hid (HCt.out.keep f0 (fun h => h))
          have HEt := Lib.hid hat_
          have HF := Lib.hid (HF.out.trans f0)
          rw [hW_, hg_]
          refine hK.out _ _ HF.out ?_
          clear hW_ hg_ f0 hat_ hK K
          try simp only [Act.put, List.setIfInBounds_toArray, List.set_cons_zero, List.set_cons_succ]
          refine wpAnyH_ready (rs := [2]) (by kernel_rfl) (by simp) ?_
          refine do_drop (i := 2) rfl (fun K hK => ?_) AllReadyH.nil
          go_simp
          obtain ⟨v97, hW_⟩ : ∃ y, v95.alloc (.cells #[] 30) = y := ⟨_, rfl⟩
          have f0 : Fr No v95 v97 := by rw [← hW_]; exact (Fr.refl _ _).alloc _
          obtain ⟨g98, hg_⟩ : ∃ y, v95.heap.size = y := ⟨_, rfl⟩
          have hat_ : At v97 g98 30 #[] := by rw [← hW_, ← hg_]; exact At.new _ _ _
          have HGA : Hid (w2.heap.size ≤ g98) := Lib.hid (by rw [← hg_]; exact HF.out.size)
          have HCA : Hid (g70 ≠ g98) := Lib.hid (by have := HCt.out.lt; omega)
          have HCt := Lib.hid (HCt.out.keep f0 (fun h => h))
          have HEA : Hid (g96 ≠ g98) := Lib.hid (by have := HEt.out.lt; omega)
          have HEt := Lib.hid (HEt.out.keep f0 (fun h => h))
          have HAt := Lib.hid hat_
          have HF := Lib.hid (HF.out.trans f0)
          rw [hW_, hg_]
          refine hK.out _ _ HF.out ?_
          clear hW_ hg_ f0 hat_ hK K
          try simp only [Act.put, List.setIfInBounds_toArray, List.set_cons_zero, List.set_cons_succ]
          refine wpAnyH_ready (rs := [5]) (by kernel_rfl) (by simp) ?_
          refine do_drop (i := 5) rfl (fun K hK => ?_) AllReadyH.nil
          obtain ⟨r100, v99, hrun_, hrow_, f1⟩ := RowG.moreO (l := []) (RowG.none_ HAt.out) a n ca HN.out (by omega) ((HB2.out.keep HF.out).ops).choose_spec (by omega)
          rw [Nat.zero_add, List.nil_append] at hrow_
          rw [if_pos (by rfl)]
          refine oper_append_run _ _ 22 rfl rfl rfl hrun_ ?_
          have eC := HCt.out.lt
          have dC := HCA.out
          have eE := HEt.out.lt
          have dE := HEA.out
          have eA := HGA.out
          have eF := HF.out.size
          have HR := Lib.hid (RowG.sub (T := (fun k => w2.heap.size ≤ k ∧ k ≠ g70 ∧ k ≠ g96)) hrow_ (fun k hk h => by unfold Gr One at h; (try dsimp only at h); omega))
          have HCt := Lib.hid (HCt.out.keep f1 (fun h => by unfold One at h; omega))
          have HEt := Lib.hid (HEt.out.keep f1 (fun h => by unfold One at h; omega))
          have HF := Lib.hid (HF.out.then_ f1 fun k hk h => by unfold One at h; omega)
          clear eC dC eE dE eA eF
          refine hK.out _ _ HF.out ?_
          clear hrun_ hrow_ f1 hK K
          try simp only [Act.put, List.setIfInBounds_toArray, List.set_cons_zero, List.set_cons_succ]
          refine wpAnyH_ready (rs := [8]) (by kernel_rfl) (by simp) ?_
          refine do_drop (i := 8) rfl (fun K hK => ?_) AllReadyH.nil
          obtain ⟨r102, v101, hrun_, hrow_, f1⟩ := RowG.moreO (l' := [x]) HR.out (some ⟨g70, 0, none⟩) 1 1 rfl (by omega) (ops_one HCt.out) (by omega)
          rw [if_pos (by rfl)]
          obtain ⟨a103, c104, hsh_, _⟩ := hrow_.form
          subst hsh_
          refine oper_append_run _ _ 22 rfl rfl rfl hrun_ ?_
          have eE := HEt.out.lt
          have eF := HF.out.size
          have HR := Lib.hid (RowG.sub (T := (fun k => w2.heap.size ≤ k ∧ k ≠ g96)) hrow_ (fun k hk h => by unfold Gr at h; (try dsimp only at h); omega))
          have HEt := Lib.hid (HEt.out.keep f1 (fun h => by (try dsimp only at h); omega))
          have HF := Lib.hid (HF.out.then_ f1 fun k hk h => by (try dsimp only at h); omega)
          clear eE eF
          refine hK.out _ _ HF.out ?_
          clear hrun_ hrow_ f1 hK K
          try simp only [Act.put, List.setIfInBounds_toArray, List.set_cons_zero, List.set_cons_succ]
          refine take_drop (i := 9) (v := .agg #[.int .i64 q, (.slice a103 (n + 1) c104)]) rfl (by kernel_rfl) (by kernel_rfl) (by kernel_rfl) (fun _ _ _ h => h) (Or.inl ⟨by rfl, fun wS hSw => by go_simp⟩) HF.out ?_
          simp only [Act.put, List.setIfInBounds_toArray, List.set_cons_zero, List.set_cons_succ]
          refine wpAnyH_ready (rs := [11]) (by kernel_rfl) (by simp) ?_
          refine do_drop (i := 11) rfl (fun K hK => ?_) AllReadyH.nil
          have hc0 := HEt.out.cell 0
          have hc1 := HEt.out.cell 1
          have hz0 := HEt.out.frozen 0
          have hz1 := HEt.out.frozen 1
          go_simp
          have eG := HGE.out
          have f1 : Fr (One g96) v101 ((v101.setCell ⟨g96, 0, none⟩ (.int .i64 q)).setCell ⟨g96, 1, none⟩ (.slice a103 (n + 1) c104)) := ((Fr.refl (One g96) v101).setCell (p := ⟨g96, 0, none⟩) (fun _ => rfl) _).setCell (p := ⟨g96, 1, none⟩) (fun _ => rfl) _
          have hat_ := (HEt.out.set_ 0 (.int .i64 q)).set_ 1 (.slice a103 (n + 1) c104)
          have HR := Lib.hid (HR.out.keep f1 fun k hk h => by unfold One at h; omega)
          have HF := Lib.hid (HF.out.then_ f1 fun k hk h => by unfold One at h; omega)
          refine hK.out _ _ HF.out ?_
          clear hK K
          try simp only [Act.put, List.setIfInBounds_toArray, List.set_cons_zero, List.set_cons_succ]
          refine wpAnyH_done (by kernel_rfl) ?_ _
          go_wp2_with fail
          go_meet
          case rel => exact ⟨g96, (.slice a103 (n + 1) c104), rfl, HF.out, HGE.out, hat_.cell 0, hat_.cell 1, HR.out⟩
        refine do_drop (i := 10) rfl (fun K hK => ?_) AllReadyH.nil
        go_simp
        obtain ⟨v105, hW_⟩ : ∃ y, wR.alloc (.cells #[.int .i64 0, .slice none 0 0] 24) = y := ⟨_, rfl⟩
        have f0 : Fr No wR v105 := by rw [← hW_]; exact (Fr.refl _ _).alloc _
        obtain ⟨g106, hg_⟩ : ∃ y, wR.heap.size = y := ⟨_, rfl⟩
        have hat_ : At v105 g106 24 #[.int .i64 0, .slice none 0 0] := by rw [← hW_, ← hg_]; exact At.new _ _ _
        have HGE : Hid (w2.heap.size ≤ g106) := Lib.hid (by rw [← hg_]; exact HF.out.size)
        have HEt := Lib.hid hat_
        have HF := Lib.hid (HF.out.trans f0)
        rw [hW_, hg_]
        refine hK.out _ _ HF.out ?_
        clear hW_ hg_ f0 hat_ hK K
        try simp only [Act.put, List.setIfInBounds_toArray, List.set_cons_zero, List.set_cons_succ]
        refine wpAnyH_ready (rs := [2, 7]) (by kernel_rfl) (by simp) ?_
        refine do_drop (i := 2) rfl (fun K hK => ?_) ?_
        · go_simp
          obtain ⟨v107, hW_⟩ : ∃ y, v105.alloc (.cells #[] 30) = y := ⟨_, rfl⟩
          have f0 : Fr No v105 v107 := by rw [← hW_]; exact (Fr.refl _ _).alloc _
          obtain ⟨g108, hg_⟩ : ∃ y, v105.heap.size = y := ⟨_, rfl⟩
          have hat_ : At v107 g108 30 #[] := by rw [← hW_, ← hg_]; exact At.new _ _ _
          have HGA : Hid (w2.heap.size ≤ g108) := Lib.hid (by rw [← hg_]; exact HF.out.size)
          have HEA : Hid (g106 ≠ g108) := Lib.hid (by have := HEt.out.lt; omega)
          have HEt := Lib.hid (HEt.out.keep f0 (fun h => h))
          have HAt := Lib.hid hat_
          have HF := Lib.hid (HF.out.trans f0)
          rw [hW_, hg_]
          refine hK.out _ _ HF.out ?_
          clear hW_ hg_ f0 hat_ hK K
          try simp only [Act.put, List.setIfInBounds_toArray, List.set_cons_zero, List.set_cons_succ]
          refine wpAnyH_ready (rs := [5, 7]) (by kernel_rfl) (by simp) ?_
          refine do_drop (i := 5) rfl (fun K hK => ?_) ?_
          · obtain ⟨r110, v109, hrun_, hrow_, f1⟩ := RowG.moreO (l := []) (RowG.none_ HAt.out) a n ca HN.out (by omega) ((HB2.out.keep HF.out).ops).choose_spec (by omega)
            rw [Nat.zero_add, List.nil_append] at hrow_
            rw [if_pos (by rfl)]
            refine oper_append_run _ _ 22 rfl rfl rfl hrun_ ?_
            have eE := HEt.out.lt
            have dE := HEA.out
            have eA := HGA.out
            have eF := HF.out.size
            have HR := Lib.hid (RowG.sub (T := (fun k => w2.heap.size ≤ k ∧ k ≠ g106)) hrow_ (fun k hk h => by unfold Gr One at h; (try dsimp only at h); omega))
            have HEt := Lib.hid (HEt.out.keep f1 (fun h => by unfold One at h; omega))
            have HF := Lib.hid (HF.out.then_ f1 fun k hk h => by unfold One at h; omega)
            clear eE dE eA eF
            refine hK.out _ _ HF.out ?_
            clear hrun_ hrow_ f1 hK K
            try simp only [Act.put, List.setIfInBounds_toArray, List.set_cons_zero, List.set_cons_succ]
            refine wpAnyH_ready (rs := [7]) (by kernel_rfl) (by simp) ?_
            refine do_drop (i := 7) rfl (fun K hK => ?_) AllReadyH.nil
            go_simp
            obtain ⟨v111, hW_⟩ : ∃ y, v109.alloc (.cells #[.int .i64 x.k, .string x.key, .string x.val] 30) = y := ⟨_, rfl⟩
            have f0 : Fr No v109 v111 := by rw [← hW_]; exact (Fr.refl _ _).alloc _
            obtain ⟨g112, hg_⟩ : ∃ y, v109.heap.size = y := ⟨_, rfl⟩
            have hat_ : At v111 g112 30 #[.int .i64 x.k, .string x.key, .string x.val] := by rw [← hW_, ← hg_]; exact At.new _ _ _
            have HGC : Hid (w2.heap.size ≤ g112) := Lib.hid (by rw [← hg_]; exact HF.out.size)
            have HEC : Hid (g106 ≠ g112) := Lib.hid (by have := HEt.out.lt; omega)
            have HEt := Lib.hid (HEt.out.keep f0 (fun h => h))
            have HR := Lib.hid ((RowG.sub (T := (fun k => w2.heap.size ≤ k ∧ k ≠ g112 ∧ k ≠ g106)) HR.out (fun k hk h => ⟨h.1, by omega, h.2⟩)).keep f0 fun _ _ h => h)
            have HCt := Lib.hid hat_
            have HF := Lib.hid (HF.out.trans f0)
            rw [hW_, hg_]
            refine hK.out _ _ HF.out ?_
            clear hW_ hg_ f0 hat_ hK K
            try simp only [Act.put, List.setIfInBounds_toArray, List.set_cons_zero, List.set_cons_succ]
            refine wpAnyH_ready (rs := [8]) (by kernel_rfl) (by simp) ?_
            refine do_drop (i := 8) rfl (fun K hK => ?_) AllReadyH.nil
            obtain ⟨r114, v113, hrun_, hrow_, f1⟩ := RowG.moreO (l' := [x]) HR.out (some ⟨g112, 0, none⟩) 1 1 rfl (by omega) (ops_one HCt.out) (by omega)
            rw [if_pos (by rfl)]
            obtain ⟨a115, c116, hsh_, _⟩ := hrow_.form
            subst hsh_
            refine oper_append_run _ _ 22 rfl rfl rfl hrun_ ?_
            have eE := HEt.out.lt
            have eF := HF.out.size
            have HR := Lib.hid (RowG.sub (T := (fun k => w2.heap.size ≤ k ∧ k ≠ g106)) hrow_ (fun k hk h => by unfold Gr at h; (try dsimp only at h); omega))
            have HEt := Lib.hid (HEt.out.keep f1 (fun h => by (try dsimp only at h); omega))
            have HF := Lib.hid (HF.out.then_ f1 fun k hk h => by (try dsimp only at h); omega)
            clear eE eF
            refine hK.out _ _ HF.out ?_
            clear hrun_ hrow_ f1 hK K
            try simp only [Act.put, List.setIfInBounds_toArray, List.set_cons_zero, List.set_cons_succ]
            refine take_drop (i := 9) (v := .agg #[.int .i64 q, (.slice a115 (n + 1) c116)]) rfl (by kernel_rfl) (by kernel_rfl) (by kernel_rfl) (fun _ _ _ h => h) (Or.inl ⟨by rfl, fun wS hSw => by go_simp⟩) HF.out ?_
            simp only [Act.put, List.setIfInBounds_toArray, List.set_cons_zero, List.set_cons_succ]
            refine wpAnyH_ready (rs := [11]) (by kernel_rfl) (by simp) ?_
            refine do_drop (i := 11) rfl (fun K hK => ?_) AllReadyH.nil
            have hc0 := HEt.out.cell 0
            have hc1 := HEt.out.cell 1
            have hz0 := HEt.out.frozen 0
            have hz1 := HEt.out.frozen 1
            go_simp
            have eG := HGE.out
            have f1 : Fr (One g106) v113 ((v113.setCell ⟨g106, 0, none⟩ (.int .i64 q)).setCell ⟨g106, 1, none⟩ (.slice a115 (n + 1) c116)) := ((Fr.refl (One g106) v113).setCell (p := ⟨g106, 0, none⟩) (fun _ => rfl) _).setCell (p := ⟨g106, 1, none⟩) (fun _ => rfl) _
            have hat_ := (HEt.out.set_ 0 (.int .i64 q)).set_ 1 (.slice a115 (n + 1) c116)
            have HR := Lib.hid (HR.out.keep f1 fun k hk h => by unfold One at h; omega)
            have HF := Lib.hid (HF.out.then_ f1 fun k hk h => by unfold One at h; omega)
            refine hK.out _ _ HF.out ?_
            clear hK K
            try simp only [Act.put, List.setIfInBounds_toArray, List.set_cons_zero, List.set_cons_succ]
            refine wpAnyH_done (by kernel_rfl) ?_ _
            go_wp2_with fail
            go_meet
            case rel => exact ⟨g106, (.slice a115 (n + 1) c116), rfl, HF.out, HGE.out, hat_.cell 0, hat_.cell 1, HR.out⟩
          refine do_drop (i := 7) rfl (fun K hK => ?_) AllReadyH.nil
          go_simp
          obtain ⟨v117, hW_⟩ : ∃ y, v107.alloc (.cells #[.int .i64 x.k, .string x.key, .string x.val] 30) = y := ⟨_, rfl⟩
          have f0 : Fr No v107 v117 := by rw [← hW_]; exact (Fr.refl _ _).alloc _
          obtain ⟨g118, hg_⟩ : ∃ y, v107.heap.size = y := ⟨_, rfl⟩
          have hat_ : At v117 g118 30 #[.int .i64 x.k, .string x.key, .string x.val] := by rw [← hW_, ← hg_]; exact At.new _ _ _
          have HGC : Hid (w2.heap.size ≤ g118) := Lib.hid (by rw [← hg_]; exact HF.out.size)
          have HAC : Hid (g108 ≠ g118) := Lib.hid (by have := HAt.out.lt; omega)
          have HAt := Lib.hid (HAt.out.keep f0 (fun h => h))
          have HEC : Hid (g106 ≠ g118) := Lib.hid (by have := HEt.out.lt; omega)
          have HEt := Lib.hid (HEt.out.keep f0 (fun h => h))
          have HCt := Lib.hid hat_
          have HF := Lib.hid (HF.out.trans f0)
          rw [hW_, hg_]
          refine hK.out _ _ HF.out ?_
          clear hW_ hg_ f0 hat_ hK K
          try simp only [Act.put, List.setIfInBounds_toArray, List.set_cons_zero, List.set_cons_succ]
          refine wpAnyH_ready (rs := [5]) (by kernel_rfl) (by simp) ?_
          refine do_drop (i := 5) rfl (fun K hK => ?_) AllReadyH.nil
          obtain ⟨r120, v119, hrun_, hrow_, f1⟩ := RowG.moreO (l := []) (RowG.none_ HAt.out) a n ca HN.out (by omega) ((HB2.out.keep HF.out).ops).choose_spec (by omega)
          rw [Nat.zero_add, List.nil_append] at hrow_
          rw [if_pos (by rfl)]
          refine oper_append_run _ _ 22 rfl rfl rfl hrun_ ?_
          have eC := HCt.out.lt
          have dC := HAC.out
          have eE := HEt.out.lt
          have dE := HEA.out
          have eA := HGA.out
          have eF := HF.out.size
          have HR := Lib.hid (RowG.sub (T := (fun k => w2.heap.size ≤ k ∧ k ≠ g118 ∧ k ≠ g106)) hrow_ (fun k hk h => by unfold Gr One at h; (try dsimp only at h); omega))
          have HCt := Lib.hid (HCt.out.keep f1 (fun h => by unfold One at h; omega))
          have HEt := Lib.hid (HEt.out.keep f1 (fun h => by unfold One at h; omega))
          have HF := Lib.hid (HF.out.then_ f1 fun k hk h => by unfold One at h; omega)
          clear eC dC eE dE eA eF
          refine hK.out _ _ HF.out ?_
          clear hrun_ hrow_ f1 hK K
          try simp only [Act.put, List.setIfInBounds_toArray, List.set_cons_zero, List.set_cons_succ]
          refine wpAnyH_ready (rs := [8]) (by kernel_rfl) (by simp) ?_
          refine do_drop (i := 8) rfl (fun K hK => ?_) AllReadyH.nil
          obtain ⟨r122, v121, hrun_, hrow_, f1⟩ := RowG.moreO (l' := [x]) HR.out (some ⟨g118, 0, none⟩) 1 1 rfl (by omega) (ops_one HCt.out) (by omega)
          rw [if_pos (by rfl)]
          obtain ⟨a123, c124, hsh_, _⟩ := hrow_.form
          subst hsh_
          refine oper_append_run _ _ 22 rfl rfl rfl hrun_ ?_
          have eE := HEt.out.lt
          have eF := HF.out.size
          have HR := Lib.hid (RowG.sub (T := (fun k => w2.heap.size ≤ k ∧ k ≠ g106)) hrow_ (fun k hk h => by unfold Gr at h; (try dsimp only at h); omega))
          have HEt := Lib.hid (HEt.out.keep f1 (fun h => by (try dsimp only at h); omega))
          have HF := Lib.hid (HF.out.then_ f1 fun k hk h => by (try dsimp only at h); omega)
          clear eE eF
          refine hK.out _ _ HF.out ?_
          clear hrun_ hrow_ f1 hK K
          try simp only [Act.put, List.setIfInBounds_toArray, List.set_cons_zero, List.set_cons_succ]
          refine take_drop (i := 9) (v := .agg #[.int .i64 q, (.slice a123 (n + 1) c124)]) rfl (by kernel_rfl) (by kernel_rfl) (by kernel_rfl) (fun _ _ _ h => h) (Or.inl ⟨by rfl, fun wS hSw => by go_simp⟩) HF.out ?_
          simp only [Act.put, List.setIfInBounds_toArray, List.set_cons_zero, List.set_cons_succ]
          refine wpAnyH_ready (rs := [11]) (by kernel_rfl) (by simp) ?_
          refine do_drop (i := 11) rfl (fun K hK => ?_) AllReadyH.nil
          have hc0 := HEt.out.cell 0
          have hc1 := HEt.out.cell 1
          have hz0 := HEt.out.frozen 0
          have hz1 := HEt.out.frozen 1
          go_simp
          have eG := HGE.out
          have f1 : Fr (One g106) v121 ((v121.setCell ⟨g106, 0, none⟩ (.int .i64 q)).setCell ⟨g106, 1, none⟩ (.slice a123 (n + 1) c124)) := ((Fr.refl (One g106) v121).setCell (p := ⟨g106, 0, none⟩) (fun _ => rfl) _).setCell (p := ⟨g106, 1, none⟩) (fun _ => rfl) _
          have hat_ := (HEt.out.set_ 0 (.int .i64 q)).set_ 1 (.slice a123 (n + 1) c124)
          have HR := Lib.hid (HR.out.keep f1 fun k hk h => by unfold One at h; omega)
          have HF := Lib.hid (HF.out.then_ f1 fun k hk h => by unfold One at h; omega)
          refine hK.out _ _ HF.out ?_
          clear hK K
          try simp only [Act.put, List.setIfInBounds_toArray, List.set_cons_zero, List.set_cons_succ]
          refine wpAnyH_done (by kernel_rfl) ?_ _
          go_wp2_with fail
          go_meet
          case rel => exact ⟨g106, (.slice a123 (n + 1) c124), rfl, HF.out, HGE.out, hat_.cell 0, hat_.cell 1, HR.out⟩
        refine do_drop (i := 7) rfl (fun K hK => ?_) AllReadyH.nil
        go_simp
        obtain ⟨v125, hW_⟩ : ∃ y, v105.alloc (.cells #[.int .i64 x.k, .string x.key, .string x.val] 30) = y := ⟨_, rfl⟩
        have f0 : Fr No v105 v125 := by rw [← hW_]; exact (Fr.refl _ _).alloc _
        obtain ⟨g126, hg_⟩ : ∃ y, v105.heap.size = y := ⟨_, rfl⟩
        have hat_ : At v125 g126 30 #[.int .i64 x.k, .string x.key, .string x.val] := by rw [← hW_, ← hg_]; exact At.new _ _ _
        have HGC : Hid (w2.heap.size ≤ g126) := Lib.hid (by rw [← hg_]; exact HF.out.size)
        have HEC : Hid (g106 ≠ g126) := Lib.hid (by have := HEt.out.lt; omega)
        have HEt := Lib.hid (HEt.out.keep f0 (fun h => h))
        have HCt := Lib.hid hat_
        have HF := Lib.hid (HF.out.trans f0)
        rw [hW_, hg_]
        refine hK.out _ _ HF.out ?_
        clear hW_ hg_ f0 hat_ hK K
        try simp only [Act.put, List.setIfInBounds_toArray, List.set_cons_zero, List.set_cons_succ]
        refine wpAnyH_ready (rs := [2]) (by kernel_rfl) (by simp) ?_
        refine do_drop (i := 2) rfl (fun K hK => ?_) AllReadyH.nil
        go_simp
        obtain ⟨v127, hW_⟩ : ∃ y, v125.alloc (.cells #[] 30) = y := ⟨_, rfl⟩
        have f0 : Fr No v125 v127 := by rw [← hW_]; exact (Fr.refl _ _).alloc _
        obtain ⟨g128, hg_⟩ : ∃ y, v125.heap.size = y := ⟨_, rfl⟩
        have hat_ : At v127 g128 30 #[] := by rw [← hW_, ← hg_]; exact At.new _ _ _
        have HGA : Hid (w2.heap.size ≤ g128) := Lib.hid (by rw [← hg_]; exact HF.out.size)
        have HCA : Hid (g126 ≠ g128) := Lib.hid (by have := HCt.out.lt; omega)
        have HCt := Lib.hid (HCt.out.keep f0 (fun h => h))
        have HEA : Hid (g106 ≠ g128) := Lib.hid (by have := HEt.out.lt; omega)
        have HEt := Lib.hid (HEt.out.keep f0 (fun h => h))
        have HAt := Lib.hid hat_
        have HF := Lib.hid (HF.out.trans f0)
        rw [hW_, hg_]
        refine hK.out _ _ HF.out ?_
        clear hW_ hg_ f0 hat_ hK K
        try simp only [Act.put, List.setIfInBounds_toArray, List.set_cons_zero, List.set_cons_succ]
        refine wpAnyH_ready (rs := [5]) (by kernel_rfl) (by simp) ?_
        refine do_drop (i := 5) rfl (fun K hK => ?_) AllReadyH.nil
        obtain ⟨r130, v129, hrun_, hrow_, f1⟩ := RowG.moreO (l := []) (RowG.none_ HAt.out) a n ca HN.out (by omega) ((HB2.out.keep HF.out).ops).choose_spec (by omega)
        rw [Nat.zero_add, List.nil_append] at hrow_
        rw [if_pos (by rfl)]
        refine oper_append_run _ _ 22 rfl rfl rfl hrun_ ?_
        have eC := HCt.out.lt
        have dC := HCA.out
        have eE := HEt.out.lt
        have dE := HEA.out
        have eA := HGA.out
        have eF := HF.out.size
        have HR := Lib.hid (RowG.sub (T := (fun k => w2.heap.size ≤ k ∧ k ≠ g126 ∧ k ≠ g106)) hrow_ (fun k hk h => by unfold Gr One at h; (try dsimp only at h); omega))
        have HCt := Lib.hid (HCt.out.keep f1 (fun h => by unfold One at h; omega))
        have HEt := Lib.hid (HEt.out.keep f1 (fun h => by unfold One at h; omega))
        have HF := Lib.hid (HF.out.then_ f1 fun k hk h => by unfold One at h; omega)
        clear eC dC eE dE eA eF
        refine hK.out _ _ HF.out ?_
        clear hrun_ hrow_ f1 hK K
        try simp only [Act.put, List.setIfInBounds_toArray, List.set_cons_zero, List.set_cons_succ]
        refine wpAnyH_ready (rs := [8]) (by kernel_rfl) (by simp) ?_
        refine do_drop (i := 8) rfl (fun K hK => ?_) AllReadyH.nil
        obtain ⟨r132, v131, hrun_, hrow_, f1⟩ := RowG.moreO (l' := [x]) HR.out (some ⟨g126, 0, none⟩) 1 1 rfl (by omega) (ops_one HCt.out) (by omega)
        rw [if_pos (by rfl)]
        obtain ⟨a133, c134, hsh_, _⟩ := hrow_.form
        subst hsh_
        refine oper_append_run _ _ 22 rfl rfl rfl hrun_ ?_
        have eE := HEt.out.lt
        have eF := HF.out.size
        have HR := Lib.hid (RowG.sub (T := (fun k => w2.heap.size ≤ k ∧ k ≠ g106)) hrow_ (fun k hk h => by unfold Gr at h; (try dsimp only at h); omega))
        have HEt := Lib.hid (HEt.out.keep f1 (fun h => by (try dsimp only at h); omega))
        have HF := Lib.hid (HF.out.then_ f1 fun k hk h => by (try dsimp only at h); omega)
        clear eE eF
        refine hK.out _ _ HF.out ?_
        clear hrun_ hrow_ f1 hK K
        try simp only [Act.put, List.setIfInBounds_toArray, List.set_cons_zero, List.set_cons_succ]
        refine take_drop (i := 9) (v := .agg #[.int .i64 q, (.slice a133 (n + 1) c134)]) rfl (by kernel_rfl) (by kernel_rfl) (by kernel_rfl) (fun _ _ _ h => h) (Or.inl ⟨by rfl, fun wS hSw => by go_simp⟩) HF.out ?_
        simp only [Act.put, List.setIfInBounds_toArray, List.set_cons_zero, List.set_cons_succ]
        refine wpAnyH_ready (rs := [11]) (by kernel_rfl) (by simp) ?_
        refine do_drop (i := 11) rfl (fun K hK => ?_) AllReadyH.nil
        have hc0 := HEt.out.cell 0
        have hc1 := HEt.out.cell 1
        have hz0 := HEt.out.frozen 0
        have hz1 := HEt.out.frozen 1
        go_simp
        have eG := HGE.out
        have f1 : Fr (One g106) v131 ((v131.setCell ⟨g106, 0, none⟩ (.int .i64 q)).setCell ⟨g106, 1, none⟩ (.slice a133 (n + 1) c134)) := ((Fr.refl (One g106) v131).setCell (p := ⟨g106, 0, none⟩) (fun _ => rfl) _).setCell (p := ⟨g106, 1, none⟩) (fun _ => rfl) _
        have hat_ := (HEt.out.set_ 0 (.int .i64 q)).set_ 1 (.slice a133 (n + 1) c134)
        have HR := Lib.hid (HR.out.keep f1 fun k hk h => by unfold One at h; omega)
        have HF := Lib.hid (HF.out.then_ f1 fun k hk h => by unfold One at h; omega)
        refine hK.out _ _ HF.out ?_
        clear hK K
        try simp only [Act.put, List.setIfInBounds_toArray, List.set_cons_zero, List.set_cons_succ]
        refine wpAnyH_done (by kernel_rfl) ?_ _
        go_wp2_with fail
        go_meet
        case rel => exact ⟨g106, (.slice a133 (n + 1) c134), rfl, HF.out, HGE.out, hat_.cell 0, hat_.cell 1, HR.out⟩

      case rest =>
        obtain ⟨D, v5, rfl, hf5, hD, y0, y1, hrow5⟩ := hcut
        obtain ⟨a5, c5, rfl, _, _, _⟩ := hrow5.form
        obtain ⟨WT, hWT, hfT, z0, z1⟩ := box_batch wc q (.slice none 0 0)
        obtain ⟨T, hT⟩ : ∃ T, wc.heap.size = T := ⟨_, rfl⟩
        rw [hT] at z0 z1
        have hDT : D < T := by rw [← hT]; exact cell_block y0
        have hBD : B < w2.heap.size := cell_block m0
        have m0 := hf5.cell m0 (fun h => h)
        have m1 := hf5.cell m1 (fun h => h)
        have x0 := hf5.cell x0 (fun h => h)
        have x1 := hf5.cell x1 (fun h => h)
        have x2 := hf5.cell x2 (fun h => h)
        have m0T := hfT.cell m0 (fun h => h)
        have m1T := hfT.cell m1 (fun h => h)
        have x0T := hfT.cell x0 (fun h => h)
        have x1T := hfT.cell x1 (fun h => h)
        have x2T := hfT.cell x2 (fun h => h)
        have y0T := hfT.cell y0 (fun h => h)
        have y1T := hfT.cell y1 (fun h => h)
        have HR5 := Lib.hid (((hrow5.sub (T := fun k => w2.heap.size ≤ k ∧ k ≠ D ∧ k < T) fun k hk h => ⟨h.1, h.2, by omega⟩)).keep hfT fun _ _ h => h)
        have HF5 := Lib.hid (HF2.out.trans (hf5.trans hfT))
        have HBT := Lib.hid ((HB2.out.keep hf5).keep hfT)
        have hOP := HB2.out.ops
        obtain ⟨SO, hOP⟩ := hOP
        have HOP := Lib.hid ((hOP.sub (T := fun k => k < w2.heap.size) fun k hk _ => hk).keep (hf5.trans hfT) fun _ _ h => h)
        clear hOP
        have hsz : WT.heap.size = T + 1 := by rw [← hWT, ← hT]; simp [World.alloc, -World.alloc_eq]
        have HSZ := Lib.hid hsz
        have HT := Lib.hid hT
        have HWT := Lib.hid hWT
        have HTA : Hid (At WT T 24 #[.int .i64 q, .slice none 0 0]) := Lib.hid (by rw [← hWT, ← hT]; exact At.new _ _ _)
        have hBw : w.heap.size ≤ w2.heap.size := HF2.out.size
        have hw2D : w2.heap.size ≤ D := hD
        rw [← hWT] at m0T m1T
        clear hf5 hrow5 hfT hT hWT hsz HB2 y0 y1 x0 x1 x2 hD
        go_wp2_with fail
        rw [HWT.out] at m0T m1T ⊢
        rw [HT.out]
        have hrev : l.reverse.length = n := by rw [List.length_reverse]; exact HN.out
        have HREV := Lib.hid hrev
        clear hrev m0 m1
        have hBT : ¬ One T B := by unfold One; omega
        have hDT2 : ¬ One T D := by unfold One; omega
        go_loopw [45] (fun i wr => ∃ (k : Nat) (a6 : Option Addr) (c6 : Nat), i = .int .i64 k ∧ k ≤ n ∧ Fr (One T) WT wr ∧ At wr T 24 #[.int .i64 q, .slice a6 k c6] ∧ RowG wr (fun b => T < b) 30 3 (.slice a6 k c6) k (opsC (l.reverse.take k))) (fun i _ => n - (intOf i).toNat)
        case atStart => exact ⟨0, none, 0, rfl, Nat.zero_le _, Fr.refl _ _, HTA.out, RowG.nil _ _ _ _⟩
        case round =>
          obtain ⟨k, a6, c6, rfl, hkn, hfr, hat, hrow⟩ := hrel
          have HAT := Lib.hid hat
          clear hat
          have HFR := Lib.hid hfr
          have HR6 := Lib.hid hrow
          clear hfr hrow
          by_cases hlt : k < n
          · obtain ⟨j, hj⟩ : ∃ j, n - 1 - k = j := ⟨_, rfl⟩
            have hjn : j < l.length := by rw [HN.out]; omega
            obtain ⟨b, o, hb, rfl, hxs⟩ := HOP.out (by omega)
            have hop := hxs j hjn
            have hbT : ¬ One T b := by unfold One; omega
            have htk : l.reverse.take (k + 1) = l.reverse.take k ++ [l.getD j op0] := by
              rw [List.take_add_one, List.getElem?_eq_getElem (by rw [HREV.out]; exact hlt), getD_op l j hjn]
              simp only [List.getElem_reverse, Option.toList]
              congr 3
              rw [HN.out]
              omega
            have HT9 := Lib.hid htk
            generalize l.getD j op0 = y at hop HT9
            obtain ⟨c0, c1, c2⟩ := hop
            have hj' : (n : Int) - 1 - (k : Int) = (j : Int) := by omega
            have e1 : IntKind.i64.wrap ((n : Int) - 1) = (n : Int) - 1 := IntWalk.i64_in _ (by omega)
            have e2 : IntKind.i64.wrap ((n : Int) - 1 - (k : Int)) = (j : Int) := by rw [hj']; exact IntWalk.i64_in _ (by omega)
            have hjn' : (j : Int) < (n : Int) := by omega
            obtain ⟨wR, hR⟩ : ∃ y, wr.drew = y := ⟨_, rfl⟩
            have hfR : Fr No wr wR := by rw [← hR]; exact (Fr.refl No wr).drew
            have hatR := HAT.out.keep hfR (fun h => h)
            have d1 : wR.cell? ⟨T, 1, none⟩ = some (.slice a6 k c6) := hatR.cell 1
            have HFRR := Lib.hid (HFR.out.then_ hfR fun _ _ h => h.elim)
            obtain ⟨W8, hW8, hf8, hat8⟩ := box_op wR y
            obtain ⟨G8, hG8⟩ : ∃ G8, wR.heap.size = G8 := ⟨_, rfl⟩
            rw [hG8] at hat8
            have HF8 := Lib.hid (HFRR.out.then_ hf8 fun _ _ h => h.elim)
            have hops8 : Ops W8 (One G8) (some ⟨G8, 0, none⟩) [y] := fun _ => ⟨G8, 0, rfl, rfl, fun i hi => by
              have : i = 0 := by simpa using hi
              subst this
              simpa using hat8⟩
            have hszR : T < wR.heap.size := cell_block d1
            have hsz8 : wR.heap.size ≤ W8.heap.size := hf8.size
            obtain ⟨v9, W9, hrun9, hrow9, hf9⟩ := RowG.moreO (l' := [y]) ((HR6.out.sub (T := fun b => T < b ∧ b < G8) fun b hb h => ⟨h, by rw [← hG8]; exact Nat.lt_of_lt_of_le hb hfR.size⟩).keep (hfR.trans hf8) fun _ _ h => h) (some ⟨G8, 0, none⟩) 1 1 rfl (by omega) hops8 (by omega)
            obtain ⟨a9, c9, rfl, _, _, _⟩ := hrow9.form
            have HRUN := Lib.hid hrun9
            have d18 := hf8.cell d1 (fun h => h)
            have hat9 := (hatR.keep hf8 (fun h => h)).keep hf9 (fun h => by have := h.1; omega)
            have HF9 := Lib.hid (HF8.out.then_ hf9 fun b hb h => by have := h.1; have := hb; rw [HSZ.out] at this; omega)
            have q1 := hat9.cell 1
            have q2 := hat9.frozen 1
            obtain ⟨W10, hW10⟩ : ∃ W10, W9.setCell ⟨T, 1, none⟩ (.slice a9 (k + 1) c9) = W10 := ⟨_, rfl⟩
            have hf10 : Fr (One T) W9 W10 := by rw [← hW10]; exact (Fr.refl (One T) W9).setCell (p := ⟨T, 1, none⟩) (fun _ => rfl) _
            have HF10 := Lib.hid (HF9.out.trans hf10)
            have hat10 : At W10 T 24 #[.int .i64 q, .slice a9 (k + 1) c9] := by rw [← hW10]; exact hat9.set_ 1 _
            have HAT10 := Lib.hid hat10
            have HR10 := Lib.hid ((hrow9.sub (T := fun b => T < b) fun b hb h => by
              rcases h with h | h
              · exact h.1
              · have := h.1; omega).keep hf10 fun b h1 h2 => by unfold One at h2; omega)
            have HD8 := Lib.hid d18
            have HW8 := Lib.hid hW8
            have HG8 := Lib.hid hG8
            have HW10 := Lib.hid hW10
            have HR0 := Lib.hid hR
            clear hfR hatR hf8 hat8 hops8 hrow9 hf9 hat9 hf10 hat10 hW8 hG8 hW10 hrun9 hj' hR d18 HOP hxs htk
            go_wp2_with fail
            refine wp_region_held_drew (S := fun w' => Fr (One T) WT w') (by kernel_rfl) HFR.out.drew (fun hHeld => ?_)
            refine take_drop (i := 0) (v := ?v0_r1) rfl (by kernel_rfl) (by kernel_rfl) (by kernel_rfl) (fun _ _ _ h => h) (Or.inl ⟨by rfl, ?h0_r1⟩) hHeld ?r0_r1
            case h0_r1 => (intro wS hSw; have m1 := hSw.cell m1T hBT; have c0 := hSw.cell c0 hbT; have c1 := hSw.cell c1 hbT; have c2 := hSw.cell c2 hbT; go_simp; all_goals (with_reducible rfl))
            simp only [Act.put, List.setIfInBounds_toArray, List.set_cons_zero, List.set_cons_succ]
            refine take_drop (i := 2) (v := ?v2_r2) rfl (by kernel_rfl) (by kernel_rfl) (by kernel_rfl) (fun _ _ _ h => h) (Or.inl ⟨by rfl, ?h2_r2⟩) hHeld ?r2_r2
            case h2_r2 => (intro wS hSw; have m1 := hSw.cell m1T hBT; have c0 := hSw.cell c0 hbT; have c1 := hSw.cell c1 hbT; have c2 := hSw.cell c2 hbT; go_simp; all_goals (with_reducible rfl))
            simp only [Act.put, List.setIfInBounds_toArray, List.set_cons_zero, List.set_cons_succ]
            refine take_drop (i := 3) (v := ?v3_r3) rfl (by kernel_rfl) (by kernel_rfl) (by kernel_rfl) (fun _ _ _ h => h) (Or.inl ⟨by rfl, ?h3_r3⟩) hHeld ?r3_r3
            case h3_r3 => (intro wS hSw; have m1 := hSw.cell m1T hBT; have c0 := hSw.cell c0 hbT; have c1 := hSw.cell c1 hbT; have c2 := hSw.cell c2 hbT; go_simp; all_goals (with_reducible rfl))
            simp only [Act.put, List.setIfInBounds_toArray, List.set_cons_zero, List.set_cons_succ]
            refine take_drop (i := 4) (v := ?v4_r4) rfl (by kernel_rfl) (by kernel_rfl) (by kernel_rfl) (fun _ _ _ h => h) (Or.inl ⟨by rfl, ?h4_r4⟩) hHeld ?r4_r4
            case h4_r4 => (intro wS hSw; have m1 := hSw.cell m1T hBT; have c0 := hSw.cell c0 hbT; have c1 := hSw.cell c1 hbT; have c2 := hSw.cell c2 hbT; go_simp; all_goals (with_reducible rfl))
            simp only [Act.put, List.setIfInBounds_toArray, List.set_cons_zero, List.set_cons_succ]
            refine take_drop (i := 5) (v := ?v5_r5) rfl (by kernel_rfl) (by kernel_rfl) (by kernel_rfl) (fun _ _ _ h => h) (Or.inl ⟨by rfl, ?h5_r5⟩) hHeld ?r5_r5
            case h5_r5 => (intro wS hSw; have m1 := hSw.cell m1T hBT; have c0 := hSw.cell c0 hbT; have c1 := hSw.cell c1 hbT; have c2 := hSw.cell c2 hbT; go_simp; all_goals (with_reducible rfl))
            simp only [Act.put, List.setIfInBounds_toArray, List.set_cons_zero, List.set_cons_succ]
            refine take_drop (i := 6) (v := ?v6_r6) rfl (by kernel_rfl) (by kernel_rfl) (by kernel_rfl) (fun _ _ _ h => h) (Or.inl ⟨by rfl, ?h6_r6⟩) hHeld ?r6_r6
            case h6_r6 => (intro wS hSw; have m1 := hSw.cell m1T hBT; have c0 := hSw.cell c0 hbT; have c1 := hSw.cell c1 hbT; have c2 := hSw.cell c2 hbT; go_simp; all_goals (with_reducible rfl))
            simp only [Act.put, List.setIfInBounds_toArray, List.set_cons_zero, List.set_cons_succ]
            refine take_drop (i := 7) (v := ?v7_r7) rfl (by kernel_rfl) (by kernel_rfl) (by kernel_rfl) (fun _ _ _ h => h) (Or.inl ⟨by rfl, ?h7_r7⟩) hHeld ?r7_r7
            case h7_r7 => (intro wS hSw; have m1 := hSw.cell m1T hBT; have c0 := hSw.cell c0 hbT; have c1 := hSw.cell c1 hbT; have c2 := hSw.cell c2 hbT; go_simp; all_goals (with_reducible rfl))
            simp only [Act.put, List.setIfInBounds_toArray, List.set_cons_zero, List.set_cons_succ]
            refine take_drop (i := 8) (v := ?v8_r8) rfl (by kernel_rfl) (by kernel_rfl) (by kernel_rfl) (fun _ _ _ h => h) (Or.inl ⟨by rfl, ?h8_r8⟩) hHeld ?r8_r8
            case h8_r8 => (intro wS hSw; have m1 := hSw.cell m1T hBT; have c0 := hSw.cell c0 hbT; have c1 := hSw.cell c1 hbT; have c2 := hSw.cell c2 hbT; go_simp; all_goals (with_reducible rfl))
            simp only [Act.put, List.setIfInBounds_toArray, List.set_cons_zero, List.set_cons_succ]
            refine take_drop (i := 9) (v := ?v9_r9) rfl (by kernel_rfl) (by kernel_rfl) (by kernel_rfl) (fun _ _ _ h => h) (Or.inl ⟨by rfl, ?h9_r9⟩) hHeld ?r9_r9
            case h9_r9 => (intro wS hSw; have m1 := hSw.cell m1T hBT; have c0 := hSw.cell c0 hbT; have c1 := hSw.cell c1 hbT; have c2 := hSw.cell c2 hbT; go_simp; all_goals (with_reducible rfl))
            simp only [Act.put, List.setIfInBounds_toArray, List.set_cons_zero, List.set_cons_succ]
            refine take_drop (i := 10) (v := ?v10_r10) rfl (by kernel_rfl) (by kernel_rfl) (by kernel_rfl) (fun _ _ _ h => h) (Or.inl ⟨by rfl, ?h10_r10⟩) hHeld ?r10_r10
            case h10_r10 => (intro wS hSw; have m1 := hSw.cell m1T hBT; have c0 := hSw.cell c0 hbT; have c1 := hSw.cell c1 hbT; have c2 := hSw.cell c2 hbT; go_simp; all_goals (with_reducible rfl))
            simp only [Act.put, List.setIfInBounds_toArray, List.set_cons_zero, List.set_cons_succ]
            refine take_drop (i := 11) (v := ?v11_r11) rfl (by kernel_rfl) (by kernel_rfl) (by kernel_rfl) (fun _ _ _ h => h) (Or.inl ⟨by rfl, ?h11_r11⟩) hHeld ?r11_r11
            case h11_r11 => (intro wS hSw; have m1 := hSw.cell m1T hBT; have c0 := hSw.cell c0 hbT; have c1 := hSw.cell c1 hbT; have c2 := hSw.cell c2 hbT; go_simp; all_goals (with_reducible rfl))
            simp only [Act.put, List.setIfInBounds_toArray, List.set_cons_zero, List.set_cons_succ]
            rw [HR0.out] at hHeld ⊢
            refine wpAnyH_ready (rs := [1, 12]) (by kernel_rfl) (by simp) ?_
            refine do_drop (i := 1) rfl (fun K hK => ?_) ?_
            · go_simp
              refine hK.out _ _ hHeld ?_
              clear hK K
              try simp only [Act.put, List.setIfInBounds_toArray, List.set_cons_zero, List.set_cons_succ]
              refine wpAnyH_ready (rs := [12]) (by kernel_rfl) (by simp) ?_
              refine do_drop (i := 12) rfl (fun K hK => ?_) AllReadyH.nil
              go_simp
              rw [HW8.out, HG8.out]
              refine hK.out _ _ HF8.out ?_
              clear hK K
              have hHeld := HF8.out
              try simp only [Act.put, List.setIfInBounds_toArray, List.set_cons_zero, List.set_cons_succ]
              refine wpAnyH_ready (rs := [13]) (by kernel_rfl) (by simp) ?_
              refine do_drop (i := 13) rfl (fun K hK => ?_) AllReadyH.nil
              rw [if_pos (by rfl)]
              refine oper_append_run _ _ 22 rfl rfl rfl HRUN.out ?_
              refine hK.out _ _ HF9.out ?_
              clear hK K
              try simp only [Act.put, List.setIfInBounds_toArray, List.set_cons_zero, List.set_cons_succ]
              refine take_drop (i := 14) (v := ?v14_r12) rfl (by kernel_rfl) (by kernel_rfl) (by kernel_rfl) (fun _ _ _ h => h) (Or.inl ⟨by rfl, ?h14_r12⟩) HF9.out ?r14_r12
              case h14_r12 => (intro wS hSw; go_simp; all_goals (with_reducible rfl))
              simp only [Act.put, List.setIfInBounds_toArray, List.set_cons_zero, List.set_cons_succ]
              refine wpAnyH_ready (rs := [15]) (by kernel_rfl) (by simp) ?_
              refine do_drop (i := 15) rfl (fun K hK => ?_) AllReadyH.nil
              go_simp
              rw [HW10.out]
              refine hK.out _ _ HF10.out ?_
              clear hK K
              try simp only [Act.put, List.setIfInBounds_toArray, List.set_cons_zero, List.set_cons_succ]
              refine wpAnyH_done (by kernel_rfl) ?_ _
              go_wp2_with fail
              go_roundw
              case rel => exact ⟨k + 1, a9, c9, by simp, by omega, HF10.out, HAT10.out, by rw [HT9.out]; exact HR10.out⟩
              case measure => simp [intOf]; omega

            refine do_drop (i := 12) rfl (fun K hK => ?_) AllReadyH.nil
            go_simp
            rw [HW8.out, HG8.out]
            refine hK.out _ _ HF8.out ?_
            clear hK K
            have hHeld := HF8.out
            have d1 := HD8.out
            try simp only [Act.put, List.setIfInBounds_toArray, List.set_cons_zero, List.set_cons_succ]
            refine wpAnyH_ready (rs := [1]) (by kernel_rfl) (by simp) ?_
            refine do_drop (i := 1) rfl (fun K hK => ?_) AllReadyH.nil
            go_simp
            refine hK.out _ _ hHeld ?_
            clear hK K
            try simp only [Act.put, List.setIfInBounds_toArray, List.set_cons_zero, List.set_cons_succ]
            refine wpAnyH_ready (rs := [13]) (by kernel_rfl) (by simp) ?_
            refine do_drop (i := 13) rfl (fun K hK => ?_) AllReadyH.nil
            rw [if_pos (by rfl)]
            refine oper_append_run _ _ 22 rfl rfl rfl HRUN.out ?_
            refine hK.out _ _ HF9.out ?_
            clear hK K
            try simp only [Act.put, List.setIfInBounds_toArray, List.set_cons_zero, List.set_cons_succ]
            refine take_drop (i := 14) (v := ?v14_r13) rfl (by kernel_rfl) (by kernel_rfl) (by kernel_rfl) (fun _ _ _ h => h) (Or.inl ⟨by rfl, ?h14_r13⟩) HF9.out ?r14_r13
            case h14_r13 => (intro wS hSw; go_simp; all_goals (with_reducible rfl))
            simp only [Act.put, List.setIfInBounds_toArray, List.set_cons_zero, List.set_cons_succ]
            refine wpAnyH_ready (rs := [15]) (by kernel_rfl) (by simp) ?_
            refine do_drop (i := 15) rfl (fun K hK => ?_) AllReadyH.nil
            go_simp
            rw [HW10.out]
            refine hK.out _ _ HF10.out ?_
            clear hK K
            try simp only [Act.put, List.setIfInBounds_toArray, List.set_cons_zero, List.set_cons_succ]
            refine wpAnyH_done (by kernel_rfl) ?_ _
            go_wp2_with fail
            go_roundw
            case rel => exact ⟨k + 1, a9, c9, by simp, by omega, HF10.out, HAT10.out, by rw [HT9.out]; exact HR10.out⟩
            case measure => simp [intOf]; omega
          · have hk' : k = n := by omega
            subst hk'
            have hfr := HFR.out
            have hrow := HR6.out
            rw [List.take_of_length_le (by rw [HREV.out]; exact Nat.le_refl _)] at hrow
            have hwr : ∀ y ∈ l.reverse, OpWf y := fun y hy => HWF.out y (List.mem_reverse.1 hy)
            have hwm : ∀ y ∈ l ++ [x], OpWf y := fun y hy => by
              rcases List.mem_append.1 hy with h | h
              · exact HWF.out y h
              · rw [List.mem_singleton.1 h]; exact HXW.out
            have bb : BtAt wr a k ca l := ⟨HN.out, HBT.out.le, HBT.out.mx, HWF.out, ⟨_, HOP.out.keep hfr fun b h1 h2 => by unfold One at h2; omega⟩⟩
            have bt : BtAt wr a6 k c6 l.reverse := hrow.bt HREV.out hwr
            have bm : BtAt wr a5 (k + 1) c5 (l ++ [x]) := (HR5.out.keep hfr fun b h1 h2 => by unfold One at h2; omega).bt (by rw [List.length_append, HN.out]; rfl) hwm
            have b0 := hfr.cell m0T hBT
            have b1 := hfr.cell m1T hBT
            have x1 := hfr.cell x1T (fun h => by unfold One at h; simp only at h; omega)
            have x2 := hfr.cell x2T (fun h => by unfold One at h; simp only at h; omega)
            have d0 := hfr.cell y0T hDT2
            have d1 := hfr.cell y1T hDT2
            have t0 := HAT.out.cell 0
            have t1 := HAT.out.cell 1
            have hfx : Fr No w wr := HF5.out.then_ hfr fun b hb h => by unfold One at h; omega
            obtain ⟨m, hm⟩ : ∃ m, (bytesO q l).length = m := ⟨_, rfl⟩
            obtain ⟨z, hz⟩ : ∃ z : Int, q + (k : Int) - 1 = z := ⟨_, rfl⟩
            have HVb : Hid (((bytesO q l).length : Int) = (m : Int)) := Lib.hid (by rw [hm])
            have HVt : Hid (((bytesO q l.reverse).length : Int) = (m : Int)) := Lib.hid (by
              rw [← hm]; unfold bytesO; rw [allO_rev, HALL.out, if_pos rfl, if_pos rfl, batchB_rev])
            have HLb : Hid (lastO q l = z) := Lib.hid (by unfold lastO; rw [HALL.out, if_pos rfl, HN.out, hz])
            have HLt : Hid (lastO q l.reverse = z) := Lib.hid (by unfold lastO; rw [allO_rev, HALL.out, if_pos rfl, HREV.out, hz])
            have HMM : Hid (allO q (l ++ [x]) = true → m + x.key.size + x.val.size < (bytesO q (l ++ [x])).length) := Lib.hid (fun h => by
              rw [← hm]; unfold bytesO; rw [HALL.out, h, if_pos rfl, if_pos rfl]
              exact batchB_more q.toNat l x (by rw [HN.out]; omega) ((allO_parts h).2.2.2.2 x (by simp)))
            have HLM : Hid (allO q (l ++ [x]) = true → lastO q (l ++ [x]) = z + 1) := Lib.hid (fun h => by
              unfold lastO; rw [h, if_pos rfl, List.length_append, HN.out, ← hz]
              simp only [List.length_cons, List.length_nil]
              omega)
            have HML : Hid (m ≤ 1000000) := Lib.hid (by rw [← hm]; exact (bytesO_len HALL.out).2)
            have HVM0 : Hid (allO q (l ++ [x]) = false → ((bytesO q (l ++ [x])).length : Int) = 0) := Lib.hid (fun h => by unfold bytesO; rw [h]; rfl)
            have HVML : Hid (allO q (l ++ [x]) = true → (bytesO q (l ++ [x])).length ≤ 1000000) := Lib.hid (fun h => (bytesO_len h).2)
            have hz1 : -1 ≤ z ∧ z ≤ 1099511627776 := by omega
            have hm6 := HML.out
            clear hz hm HR6 HR5 HBT HOP hwr hwm hrow hfr m0T m1T x0T x1T x2T y0T y1T HAT HFR HF5 HF2
            have e1 : ((m : Int) != (m : Int)) = false := by simp
            have e2 : (z != z) = false := by simp
            obtain ⟨w0, hw0⟩ : ∃ y, w = y := ⟨_, rfl⟩
            rw [hw0] at hfx
            go_wp2_with fail
            have hfx := hfx.drew
            have bb := bb.keep (Fr.refl No wr).drew
            have bt := bt.keep (Fr.refl No wr).drew
            have bm := bm.keep (Fr.refl No wr).drew
            go_region_held3 (fun w' => w'.cell? ⟨B, 0, none⟩ = some (.int .i64 q) ∧ w'.cell? ⟨B, 1, none⟩ = some (.slice a k ca) ∧ w'.cell? ⟨T, 0, none⟩ = some (.int .i64 q) ∧ w'.cell? ⟨T, 1, none⟩ = some (.slice a6 k c6) ∧ w'.cell? ⟨B + 1, 1, none⟩ = some (.string x.key) ∧ w'.cell? ⟨B + 1, 2, none⟩ = some (.string x.val) ∧ w'.cell? ⟨D, 0, none⟩ = some (.int .i64 q) ∧ w'.cell? ⟨D, 1, none⟩ = some (.slice a5 (k + 1) c5) ∧ BtAt w' a k ca l ∧ BtAt w' a6 k c6 l.reverse ∧ BtAt w' a5 (k + 1) c5 (l ++ [x]) ∧ Fr No w0 w') (first | assumption | go_keep)
              (first
                | (go_at_call 17; refine (HSI.out _ _ _ _ _ (by assumption)).mono ?_
                   intro e w6 hret
                   (first | rw [HVb.out] at hret | rw [HVt.out] at hret)
                   obtain ⟨rfl, hf6⟩ := hret
                   have b0 := hf6.cell (p := ⟨B, 0, none⟩) b0 (fun h => h)
                   have b1 := hf6.cell (p := ⟨B, 1, none⟩) b1 (fun h => h)
                   have t0 := hf6.cell (p := ⟨T, 0, none⟩) t0 (fun h => h)
                   have t1 := hf6.cell (p := ⟨T, 1, none⟩) t1 (fun h => h)
                   have x1 := hf6.cell (p := ⟨B + 1, 1, none⟩) x1 (fun h => h)
                   have x2 := hf6.cell (p := ⟨B + 1, 2, none⟩) x2 (fun h => h)
                   have d0 := hf6.cell (p := ⟨D, 0, none⟩) d0 (fun h => h)
                   have d1 := hf6.cell (p := ⟨D, 1, none⟩) d1 (fun h => h)
                   have bb := bb.keep hf6
                   have bt := bt.keep hf6
                   have bm := bm.keep hf6
                   have hfx := hfx.trans hf6
                   clear hf6)
                | (go_at_call 18; refine (HLA.out _ _ _ _ _ (by assumption)).mono ?_
                   intro e w6 hret
                   (first | rw [HLb.out] at hret | rw [HLt.out] at hret)
                   obtain ⟨rfl, hf6⟩ := hret
                   have b0 := hf6.cell (p := ⟨B, 0, none⟩) b0 (fun h => h)
                   have b1 := hf6.cell (p := ⟨B, 1, none⟩) b1 (fun h => h)
                   have t0 := hf6.cell (p := ⟨T, 0, none⟩) t0 (fun h => h)
                   have t1 := hf6.cell (p := ⟨T, 1, none⟩) t1 (fun h => h)
                   have x1 := hf6.cell (p := ⟨B + 1, 1, none⟩) x1 (fun h => h)
                   have x2 := hf6.cell (p := ⟨B + 1, 2, none⟩) x2 (fun h => h)
                   have d0 := hf6.cell (p := ⟨D, 0, none⟩) d0 (fun h => h)
                   have d1 := hf6.cell (p := ⟨D, 1, none⟩) d1 (fun h => h)
                   have bb := bb.keep hf6
                   have bt := bt.keep hf6
                   have bm := bm.keep hf6
                   have hfx := hfx.trans hf6
                   clear hf6))
            clear t0 t1 bt e1 e2
            have bm0 := HCH.out _ _ _ _ _ bm
            cases hal : allO q (l ++ [x]) with
            | false =>
              have hE : errO (allO q (l ++ [x])) = .int .i64 100 := by rw [hal]; rfl
              have HV := Lib.hid (HVM0.out hal)
              rw [hE] at bm0
              have HC := Lib.hid bm0
              clear hal hE bm0
              go_wp2_with fail
              refine HC.out.mono ?_
              rintro e w7 ⟨rfl, hf7⟩
              have d0 := hf7.cell d0 (fun h => h)
              have d1 := hf7.cell d1 (fun h => h)
              have bm := bm.keep hf7
              have hfx := hfx.trans hf7
              have HS7 := Lib.hid (HSI.out _ _ _ _ _ bm)
              rw [HV.out] at HS7
              clear hf7
              go_wp2_with fail
              refine HS7.out.mono ?_
              rintro e w8 ⟨rfl, hf8⟩
              have hfx := hfx.trans hf8
              clear hf8 bm
              go_wp2_with fail
              refine (awake10_c HH.out _).mono ?_
              rintro e w9 ⟨rfl, hf9⟩
              have hfx := hfx.trans hf9
              go_wp2_with fail
              go_ret
              exact ⟨rfl, hw0 ▸ hfx⟩
            | true =>
              have hE : errO (allO q (l ++ [x])) = .int .i64 0 := by rw [hal]; rfl
              obtain ⟨mm, hmm⟩ : ∃ mm, (bytesO q (l ++ [x])).length = mm := ⟨_, rfl⟩
              have hlt := HMM.out hal
              have hml := HVML.out hal
              have HVm : Hid (((bytesO q (l ++ [x])).length : Int) = (mm : Int)) := Lib.hid (by rw [hmm])
              have HLm := Lib.hid (HLM.out hal)
              rw [hmm] at hlt hml
              rw [hE] at bm0
              have HC := Lib.hid bm0
              clear hal hE bm0 hmm
              go_wp2_with fail
              refine HC.out.mono ?_
              rintro e w7 ⟨rfl, hf7⟩
              have d0 := hf7.cell d0 (fun h => h)
              have d1 := hf7.cell d1 (fun h => h)
              have b0 := hf7.cell b0 (fun h => h)
              have b1 := hf7.cell b1 (fun h => h)
              have x1 := hf7.cell x1 (fun h => h)
              have x2 := hf7.cell x2 (fun h => h)
              have bm := bm.keep (hf7.trans (Fr.refl No w7).drew)
              have bb := bb.keep (hf7.trans (Fr.refl No w7).drew)
              have hfx := (hfx.trans hf7).drew
              clear hf7
              obtain ⟨ks, hks⟩ : ∃ ks, x.key.size = ks := ⟨_, rfl⟩
              obtain ⟨vs, hvs⟩ : ∃ vs, x.val.size = vs := ⟨_, rfl⟩
              have e1 : IntKind.i64.wrap ((m : Int) + (x.key.size : Int)) = (m : Int) + (x.key.size : Int) := IntWalk.i64_in _ (by omega)
              have e2 : IntKind.i64.wrap ((m : Int) + (x.key.size : Int) + (x.val.size : Int)) = (m : Int) + (x.key.size : Int) + (x.val.size : Int) := IntWalk.i64_in _ (by omega)
              have e3 : decide (IntKind.i64.wrap (IntKind.i64.wrap ((m : Int) + (x.key.size : Int)) + (x.val.size : Int)) < (mm : Int)) = true := by rw [e1, e2, decide_eq_true_eq]; omega
              have e4 : IntKind.i64.wrap (z + 1) = z + 1 := IntWalk.i64_in _ (by omega)
              have e5 : (z + 1 == IntKind.i64.wrap (z + 1)) = true := by rw [e4]; simp
              have e6 : (z + 1 == z + 1) = true := by simp
              have e7 : decide ((m : Int) + (x.key.size : Int) + (x.val.size : Int) < (mm : Int)) = true := by rw [decide_eq_true_eq]; omega
              clear hks hvs
              go_wp2_with fail
              go_region_held3 (fun w' => w'.cell? ⟨B, 0, none⟩ = some (.int .i64 q) ∧ w'.cell? ⟨B, 1, none⟩ = some (.slice a k ca) ∧ w'.cell? ⟨B + 1, 1, none⟩ = some (.string x.key) ∧ w'.cell? ⟨B + 1, 2, none⟩ = some (.string x.val) ∧ w'.cell? ⟨D, 0, none⟩ = some (.int .i64 q) ∧ w'.cell? ⟨D, 1, none⟩ = some (.slice a5 (k + 1) c5) ∧ BtAt w' a k ca l ∧ BtAt w' a5 (k + 1) c5 (l ++ [x]) ∧ Fr No w0 w') (first | assumption | go_keep)
                (first
                  | (go_at_call 17; refine (HSI.out _ _ _ _ _ (by assumption)).mono ?_
                     intro e w6 hret
                     (first | rw [HVb.out] at hret | rw [HVm.out] at hret)
                     obtain ⟨rfl, hf6⟩ := hret
                     have b0 := hf6.cell (p := ⟨B, 0, none⟩) b0 (fun h => h)
                     have b1 := hf6.cell (p := ⟨B, 1, none⟩) b1 (fun h => h)
                     have x1 := hf6.cell (p := ⟨B + 1, 1, none⟩) x1 (fun h => h)
                     have x2 := hf6.cell (p := ⟨B + 1, 2, none⟩) x2 (fun h => h)
                     have d0 := hf6.cell (p := ⟨D, 0, none⟩) d0 (fun h => h)
                     have d1 := hf6.cell (p := ⟨D, 1, none⟩) d1 (fun h => h)
                     have bb := bb.keep hf6
                     have bm := bm.keep hf6
                     have hfx := hfx.trans hf6
                     clear hf6)
                  | (go_at_call 18; refine (HLA.out _ _ _ _ _ (by assumption)).mono ?_
                     intro e w6 hret
                     (first | rw [HLb.out] at hret | rw [HLm.out] at hret)
                     obtain ⟨rfl, hf6⟩ := hret
                     have b0 := hf6.cell (p := ⟨B, 0, none⟩) b0 (fun h => h)
                     have b1 := hf6.cell (p := ⟨B, 1, none⟩) b1 (fun h => h)
                     have x1 := hf6.cell (p := ⟨B + 1, 1, none⟩) x1 (fun h => h)
                     have x2 := hf6.cell (p := ⟨B + 1, 2, none⟩) x2 (fun h => h)
                     have d0 := hf6.cell (p := ⟨D, 0, none⟩) d0 (fun h => h)
                     have d1 := hf6.cell (p := ⟨D, 1, none⟩) d1 (fun h => h)
                     have bb := bb.keep hf6
                     have bm := bm.keep hf6
                     have hfx := hfx.trans hf6
                     clear hf6)
                  | (go_at_call 10; refine (awake10_c HH.out _).mono ?_
                     intro e w6 hret
                     obtain ⟨rfl, hf6⟩ := hret
                     have b0 := hf6.cell (p := ⟨B, 0, none⟩) b0 (fun h => h)
                     have b1 := hf6.cell (p := ⟨B, 1, none⟩) b1 (fun h => h)
                     have x1 := hf6.cell (p := ⟨B + 1, 1, none⟩) x1 (fun h => h)
                     have x2 := hf6.cell (p := ⟨B + 1, 2, none⟩) x2 (fun h => h)
                     have d0 := hf6.cell (p := ⟨D, 0, none⟩) d0 (fun h => h)
                     have d1 := hf6.cell (p := ⟨D, 1, none⟩) d1 (fun h => h)
                     have bb := bb.keep hf6
                     have bm := bm.keep hf6
                     have hfx := hfx.trans hf6
                     clear hf6))
              go_wp2_with fail
              go_ret
              exact ⟨rfl, hw0 ▸ hfx⟩


theorem batchSizes_walk (H : BatchOK) (w : World) (q : Int) (wq : (Lit.int .i64 q).wf = true) (a : Option Addr) (ca : Nat) (l : List Op10) (h1 : l.length ≤ ca) (h2 : ca ≤ maxLen) (hi : Ops w (fun _ => True) a l) (hwf : ∀ x ∈ l, OpWf x) (x : Op10) (hx : OpWf x) :
    Calls Try.prog 7 #[.agg #[.int .i64 q, .slice a l.length ca], opV x] w fun e w' => e = .returned (.bool true) ∧ Below w.heap.size w w' := (bsizes_c H w q a ca l x wq h1 h2 hi hwf hx).mono fun _ _ h => h.below
end Go.Proofs.Ytidfjcaajejfoaa
