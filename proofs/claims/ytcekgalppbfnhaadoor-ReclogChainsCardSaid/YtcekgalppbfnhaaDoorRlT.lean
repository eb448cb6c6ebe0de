/-
  Layer 9: records appended to a list of the call's own.
-/
import Derived.Test.YtcekgalppbfnhaaDoorRlB
namespace Go.Proofs.YtcekgalppbfnhaaDoor
set_option linter.unusedVariables false
open Go.RowKit

theorem append_none (w : World) (base : Option Addr) (n cap : Nat) (h : n ≤ cap) (a : Option Addr) (c : Nat) :
    (Builtin.append_ #[25, 25] 25 #[.slice base n cap, .slice a 0 c]).run Tryd.prog w = .ok (.slice base n cap) w := by
  obtain ⟨i0, hi, hz0, hz1, hz2⟩ := info_parts rowTx.info
  cases a <;> cases base <;> simp [Builtin.append_, run_underlying rowTx.und, sizeOf, typeInfo, hi, Builtin.lenOf, Builtin.firstCells, loadCells, loadCellsFrom, storeCells, h]
theorem one_txC (l : List Tx) : ∀ u ∈ txC l, u.oneCell' = true := by
  intro u hu
  unfold txC at hu
  obtain ⟨p, _, rfl⟩ := List.mem_map.1 hu
  rfl
/-- Records appended to a row of the call's own. -/
theorem RowG.tx_append {w : World} {S : Nat → Prop} {v : Value} {o l : List Tx} {a : Option Addr} {c : Nat} (h : RowG w S 22 1 v o.length (txC o)) (hr : Recs w a l) (hn : o.length + l.length ≤ 1000000) :
    ∃ v' w', (Builtin.append_ #[25, 25] 25 #[v, .slice a l.length c]).run Tryd.prog w = .ok v' w' ∧ RowG w' (Gr S w w') 22 1 v' (o ++ l).length (txC (o ++ l)) ∧ Fr S w w' := by
  rcases Nat.eq_zero_or_pos l.length with h0 | h0
  · have hl : l = [] := List.eq_nil_of_length_eq_zero h0
    subst hl
    obtain ⟨ba, cap, rfl, h1, _⟩ := h.form
    refine ⟨_, w, append_none w ba o.length cap h1 a c, ?_, Fr.refl S w⟩
    rw [List.append_nil]
    exact h.sub fun x _ hx => .inl hx
  · obtain ⟨i0, hi, hz0, hz1, hz2⟩ := info_parts rowTx.info
    obtain ⟨b, off, rfl, hcells⟩ := hr h0
    obtain ⟨v', w', hrun, h2, h3, _, h5⟩ := run_append_own_at (P := Tryd.prog) w 0 25 25 22 i0 (.slice none 0 0) 1 24 rowTx.und hi hz0 hz1 hz2 rowTx.zc rowTx.pos v o.length (txC o) h.1
      ⟨b, off, none⟩ l.length c (txC l) (by unfold txC; simp) (fun j u hu => by
        unfold txC at hu
        rw [List.getElem?_map] at hu
        cases hx : l[j]? with
        | none => rw [hx] at hu; cases hu
        | some x =>
          rw [hx] at hu
          obtain rfl := Option.some.inj hu
          rw [add_at]
          exact (hcells j x hx).c0) (one_txC l) (by unfold maxLen; omega) (by omega) (Nat.zero_le _)
    have hf3 := Fr.grown h3 h.2
    refine ⟨v', w', hrun, ⟨?_, fun x hx => ?_⟩, hf3⟩
    · have e : txC (o ++ l) = txC o ++ txC l := by unfold txC; rw [List.map_append]
      rw [List.length_append, e]
      exact h2
    · rcases h5 with h5 | h5
      · exact .inl (h.2 x (h5 ▸ hx))
      · rw [h5] at hx
        have hk : w.heap.size = x := Option.some.inj hx
        have h6 := (h2.lt x (by rw [h5, hk])).2
        exact .inr ⟨by omega, h6⟩
theorem RowG.recs {w : World} {S : Nat → Prop} {v : Value} {l : List Tx} (h : RowG w S 22 1 v l.length (txC l)) (hr : ∀ x ∈ l, Rd w x.a x.b) : ∃ a cap, v = .slice a l.length cap ∧ l.length ≤ cap ∧ cap ≤ maxLen ∧ Recs w a l := by
  obtain ⟨a, cap, rfl, h1, h2, h3, h4⟩ := h.form
  refine ⟨a, cap, rfl, h1, h2, fun h0 => ?_⟩
  obtain ⟨b, _, rfl, hc⟩ := h4 h0
  refine ⟨b, 0, rfl, fun i x hx => ?_⟩
  have hi : i < l.length := (List.getElem?_eq_some_iff.1 hx).1
  refine ⟨?_, hr x (List.mem_of_getElem? hx)⟩
  rw [Nat.zero_add, (hc i (by omega)).1]
  unfold txC
  rw [List.getElem?_map, hx]
  rfl
theorem Recs.all {w : World} {a : Option Addr} {l : List Tx} (h : Recs w a l) : ∀ x ∈ l, Rd w x.a x.b := fun x hx => by
  obtain ⟨i, hi, rfl⟩ := List.mem_iff_getElem.1 hx
  obtain ⟨b, o, _, hb⟩ := h (by omega)
  exact (hb i _ (List.getElem?_eq_getElem hi)).rd
theorem txR_join {w : World} {B B2 : Nat} {v : Value} {xs ys : List Tx} {ua : Option Addr} {n uc : Nat} (h1 : TxR w B v xs) (h2 : TxR w B2 (.slice ua n uc) ys) (hB : B ≤ B2) (hv : ∀ k, v.ownBlock = some k → k < B2) (hB2 : B2 ≤ w.heap.size) (hn : xs.length + ys.length ≤ 1000000) (hy : ys.length = n) :
    ∃ v' w', (Builtin.append_ #[25, 25] 25 #[v, .slice ua n uc]).run Tryd.prog w = .ok v' w' ∧ TxR w' B v' (xs ++ ys) ∧ Fr (Own1 v) w w' := by
  obtain ⟨a, c, he, _, _, hr⟩ := h2.texts
  obtain ⟨rfl, _, rfl⟩ := Value.slice.inj he
  obtain ⟨v', w', hrun, hrow, hfr⟩ := h1.row.tx_append (c := uc) hr hn
  rw [hy] at hrun
  have hv' : ∀ k, v'.ownBlock = some k → v.ownBlock = some k ∨ w.heap.size ≤ k := fun k hk => (hrow.2 k hk).elim .inl fun h => .inr h.1
  refine ⟨v', w', hrun, ⟨⟨hrow.1, fun k hk => hk⟩, fun k hk => (hv' k hk).elim (h1.own k) fun h => by omega, fun x hx => ?_⟩, hfr⟩
  rcases List.mem_append.1 hx with hx | hx
  · exact (((h1.at_ x hx).sub (T := fun k => (B ≤ k ∧ v.ownBlock ≠ some k) ∧ k < w.heap.size) fun k hk h => ⟨h, hk⟩).keep hfr (fun k hk e => hk.1.2 e)).sub fun k _ hk => ⟨hk.1.1, fun e => (hv' k e).elim hk.1.2 fun h => by have := hk.2; omega⟩
  · exact (((h2.at_ x hx).sub (T := fun k => B2 ≤ k ∧ k < w.heap.size) fun k hk h => ⟨h.1, hk⟩).keep hfr (fun k hk e => by have := hv k e; have := hk.1; omega)).sub fun k _ hk => ⟨by have := hk.1; omega, fun e => (hv' k e).elim (fun e => by have := hv k e; have := hk.1; omega) fun h => by have := hk.2; omega⟩
end Go.Proofs.YtcekgalppbfnhaaDoor
