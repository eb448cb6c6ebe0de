/-
  Layer 14: a log of the call's own, beside a row of items of the law's own.
-/
import Derived.Test.YtihahckjcedceaaDoorMxVgT
namespace Go.Proofs.YtihahckjcedceaaDoor
set_option linter.unusedVariables false
set_option linter.unusedSimpArgs false
open Go.RowKit

theorem rowIt : RowT Tryd.prog 35 45 (.agg #[.string ⟨#[]⟩, .int .i64 0, .int .i64 0, .string ⟨#[]⟩]) 4 48 := ⟨Tryd.underlying35, by kernel_rfl, rfl, by decide⟩
structure LoI (W : World) (K : Nat → Prop) (w : World) (g d : Nat) (v : Value) (zs : List Int) (m : Dev) (u : Value) (us : List Ent) : Prop where
  ow : OwnL W K w g d v zs m
  kb : ∀ k, K k → W.heap.size ≤ k
  row : RowG w K 45 4 u us.length (entsC us)
section
variable {W w w' : World} {K : Nat → Prop} {g d : Nat} {v : Value} {zs : List Int} {m m' : Dev} {u : Value} {us : List Ent}
theorem gr_kb (hk : ∀ k, K k → W.heap.size ≤ k) (f : Fr No W w) : ∀ k, Gr K w w' k → W.heap.size ≤ k := fun k h => h.elim (hk k) fun h => Nat.le_trans f.size h.1
/-- Behind a call that made memory alone: its blocks are the law's own. -/
theorem LoI.new (h : LoI W K w g d v zs m u us) (f : Fr No w w') : LoI W (Gr K w w') w' g d v zs m u us :=
  ⟨h.ow.new f, gr_kb h.kb h.ow.fr, (h.row.keep f fun _ _ h => h).sub fun k _ hk => .inl hk⟩
theorem LoI.no (h : LoI W K w g d v zs m u us) (f : Fr No w w') : LoI W K w' g d v zs m u us := ⟨h.ow.no f, h.kb, h.row.keep f fun _ _ h => h⟩
/-- Behind a call of the log's. -/
theorem LoI.call (h : LoI W K w g d v zs m u us) {v' : Value} {zs' : List Int} (ho : OwnL W K w' g d v' zs' m') (f : Fr (Off K) w w') : LoI W K w' g d v' zs' m' u us := ⟨ho, h.kb, h.row.keep f fun k hk hn => hn hk⟩
/-- An item more. -/
theorem LoI.push (h : LoI W K w g d v zs m u us) (x : Ent) {n : Nat} (hn : us.length = n) (hl : n ≤ 1000000) :
    ∃ u' w', (Builtin.append_ #[35, 35] 35 #[u, .slice (some ⟨w.heap.size, 0, none⟩) 1 1]).run Tryd.prog (w.alloc (.cells #[.string x.u, .int .i64 x.q, .int .i64 x.k, .string x.val] 45)) = .ok u' w' ∧ LoI W (Gr K w w') w' g d v zs m u' (us ++ [x]) ∧ Fr K w w' := by
  subst hn
  obtain ⟨u', w', h1, h2, h3⟩ := h.row.push rowIt h.ow.low (entC x) rfl (by intro u hu; simp [entC] at hu; rcases hu with rfl | rfl | rfl | rfl <;> rfl) (by omega) (by omega)
  refine ⟨u', w', h1, ⟨h.ow.turn h3 fun k _ hk => ⟨hk, h.kb k hk⟩, gr_kb h.kb h.ow.fr, ?_⟩, h3⟩
  rw [entsC_append, List.length_append]
  have e : entsC [x] = entC x := by simp [entsC]
  rw [e]
  exact h2
theorem LoI.start (h : OwnL W No w g d v zs m) : LoI W No w g d v zs m (.slice none 0 0) [] := ⟨h, fun k h => h.elim, RowG.nil _ _ _ _⟩
end
/-- What a value tells, what an item tells. -/
def vlT (y : Vl) : Ky × ByteArray := (y.x, y.s)
def enT (x : Ent) : Ky × ByteArray := (eKy x, x.val)
/-- The zone's bytes are frames of records, whose values are the items. -/
structure ZnI (m : Dev) (z : Int) (rs : List (List UInt8)) (us : List Ent) : Prop where
  dv : ∃ b, Dv4 m b 4 ∧ b z = framesL rs
  vs : (vlList z 0 rs).map vlT = us.map enT
theorem ZnI.start (z : Int) : ZnI (newM 4 400 4) z [] [] := ⟨⟨_, Dv4.new_.more (show (0 : Int) ≤ 4 by decide), rfl⟩, rfl⟩
theorem ZnI.wf {m : Dev} {z : Int} {rs : List (List UInt8)} {us : List Ent} (h : ZnI m z rs us) : WF m := by
  obtain ⟨b, h1, _⟩ := h.dv
  exact h1.live.wf
/-- A record that is no value's. -/
theorem ZnI.junk {m : Dev} {z : Int} {rs : List (List UInt8)} {us : List Ent} (h : ZnI m z rs us) (h0 : 0 ≤ z) (h1 : z < 4) (l : List UInt8) (hl : l.length ≤ 50) : ∃ rs', ZnI (appDv m [z] (120 :: l)) z rs' us := by
  obtain ⟨b, hD, hb⟩ := h.dv
  obtain ⟨_, ⟨a1, a2, a3, a4⟩ | ⟨a1, a2, a3, a4⟩⟩ := hD.put (zs := [z]) (z := z) (by simp) rfl h0 h1 h1 (120 :: l)
  · exact ⟨rs, by rw [a3]; exact h⟩
  · refine ⟨rs ++ [120 :: l], ⟨_, a3, by rw [updB_at, hb, framesL_snoc]⟩, ?_⟩
    rw [vlList_snoc]
    unfold vlOne
    rw [rrR_junk l hl]
    simpa using h.vs
/-- A value put: its error tells whether it was. -/
theorem ZnI.put {m : Dev} {z : Int} {rs : List (List UInt8)} {us : List Ent} (h : ZnI m z rs us) (h0 : 0 ≤ z) (h1 : z < 4) (x : Ent) (hx : (eKy x).rt) (hv : x.val.size ≤ 1000) :
    ((putT m [z] (recB (eKy x) x.val)).2.2.2 ≠ 0 ∧ ZnI (appDv m [z] (recB (eKy x) x.val)) z rs us) ∨ ((putT m [z] (recB (eKy x) x.val)).2.2.2 = 0 ∧ ∃ rs', ZnI (appDv m [z] (recB (eKy x) x.val)) z rs' (us ++ [x])) := by
  obtain ⟨b, hD, hb⟩ := h.dv
  obtain ⟨_, ⟨a1, a2, a3, a4⟩ | ⟨a1, a2, a3, a4⟩⟩ := hD.put (zs := [z]) (z := z) (by simp) rfl h0 h1 h1 (recB (eKy x) x.val)
  · refine .inl ⟨?_, by rw [a3]; exact h⟩
    rw [putT_err a1]
    exact a1
  · refine .inr ⟨by rw [putT_ok a1], rs ++ [recB (eKy x) x.val], ⟨_, a3, by rw [updB_at, hb, framesL_snoc]⟩, ?_⟩
    rw [vlList_snoc, vlOne_rec z _ hx x.val (by omega), List.map_append, List.map_append, h.vs]
    rfl
/-- What List tells; what it tells behind more bytes. -/
theorem ZnI.list {m : Dev} {z : Int} {rs : List (List UInt8)} {us : List Ent} (h : ZnI m z rs us) (h0 : 0 ≤ z) (h1 : z < 4) : ∃ V : List Vl, rdErr m z 0 (ptrM m z) = 0 ∧ vlR z (rdB m z 0 (ptrM m z)) = V ∧ V.length = us.length ∧ (∀ i, i < us.length → (V.getD i vl0).x = eKy (us.getD i ent0) ∧ (V.getD i vl0).s = (us.getD i ent0).val) ∧
    rdErr m 4 0 (ptrM m 4) = 70 ∧ ∀ raw : List UInt8, ∃ V2 : List Vl, rdErr (appM m z raw) z 0 (ptrM (appM m z raw) z) = 0 ∧ vlR z (rdB (appM m z raw) z 0 (ptrM (appM m z raw) z)) = V2 ∧ V.length ≤ V2.length ∧ (∀ i, i < V.length → V2.getD i vl0 = V.getD i vl0) ∧ WF (appM m z raw) ∧ rdErr (appM m z raw) 4 0 (ptrM (appM m z raw) 4) = 70 := by
  obtain ⟨b, hD, hb⟩ := h.dv
  have hle := hD.le h0 h1
  rw [hb] at hle
  have hV : vlR z (b z) = vlList z 0 rs := by unfold vlR; rw [hb, scan_frames rs (by omega)]
  have hlen : (vlList z 0 rs).length = us.length := by have := congrArg List.length h.vs; simpa using this
  refine ⟨vlList z 0 rs, (hD.rd h0 h1).1, by rw [(hD.rd h0 h1).2]; exact hV, hlen, fun i hi => ?_, hD.out, fun raw => ?_⟩
  · have e := congrArg (fun l => l[i]?) h.vs
    simp only [List.getElem?_map] at e
    rw [List.getElem?_eq_getElem (by omega), List.getElem?_eq_getElem hi] at e
    simp only [Option.map_some, Option.some.injEq] at e
    unfold vlT enT at e
    rw [Prod.mk.injEq] at e
    rw [List.getD_eq_getElem?_getD, List.getD_eq_getElem?_getD, List.getElem?_eq_getElem (by omega), List.getElem?_eq_getElem hi]
    exact e
  · rcases hD.app h0 h1 h1 raw with ⟨a1, a2, a3⟩ | ⟨a1, a2, a3, a4⟩
    · rw [a2]
      exact ⟨vlList z 0 rs, (hD.rd h0 h1).1, by rw [(hD.rd h0 h1).2]; exact hV, Nat.le_refl _, fun _ _ => rfl, hD.live.wf, hD.out⟩
    · have hr := a3.rd h0 h1
      rw [updB_at, hb] at hr
      refine ⟨vlList z 0 rs ++ vlList z (0 + (framesL rs).length) (scanL raw), hr.1, ?_, by rw [List.length_append]; omega, fun i hi => ?_, a3.live.wf, a3.out⟩
      · rw [hr.2]
        unfold vlR
        rw [scan_front rs raw (by rw [List.length_append]; rw [hb] at a2; omega), vlList_append]
      · rw [List.getD_eq_getElem?_getD, List.getD_eq_getElem?_getD, List.getElem?_append_left hi]
end Go.Proofs.YtihahckjcedceaaDoor
