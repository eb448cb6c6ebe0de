/-
  An append to a row of the call's own leaves what the elder slice reads.
-/
import Derived.Test.YtcekgalppbfnhaaDoorMem
import Derived.Laws.Append
namespace Go.Proofs.YtcekgalppbfnhaaDoor
set_option linter.unusedVariables false
open Go.RowKit

/-- An append under a guard that is met, its run known. -/
theorem wpList_append_runG {P : Program} {w : World} {ops : Array Oper} {rest : List Oper} {o : Oper} {a : Act} {Q : Exit → Act → World → Prop} (hw : Region.wanted o (yielded ops a.tmps) = true) (s x : Operand) (t : TypeId)
    (ho : o.op = .call { callee := .builtin .append, args := #[s, x], argTypes := #[t, t] }) {v u v' : Value} {w' : World} (hs : a.eval s = v) (hx : a.eval x = u)
    (hr : (Builtin.append_ #[t, t] o.type #[v, u]).run P w = .ok v' w') (h : wpList P ops Q rest (a.put o.dst v') w') : wpList P ops Q (o :: rest) a w := by
  refine wpList_step fun K hK => ?_
  rw [if_pos hw]
  unfold Oper.wp
  simp only [execOp, ho, resolve, invoke, builtin, Sem.run_bind, Sem.run_pure, Result.andThen_ok, List.map_toArray, List.map_cons, List.map_nil, hs, hx, hr]
  exact hK _ _ h

theorem Rd.prefix {w : World} {a : Option Addr} {l r : List UInt8} (h : Rd w a (l ++ r)) : Rd w a l := by
  have := h.take l.length
  rwa [List.take_left] at this
theorem Row.append_keep {w : World} {S : Nat → Prop} {a : Option Addr} {n cap : Nat} {l : List UInt8} (h : Row w S (.slice a n cap) l) (b : Option Addr) (m c : Nat) (news : List UInt8) (hm : news.length = m) (hr : Rd w b news)
    (hb : l.length + m ≤ 140737488355328) : ∃ a' n' cap' w', (Builtin.append_ #[22, 22] 22 #[.slice a n cap, .slice b m c]).run Tryd.prog w = .ok (.slice a' n' cap') w' ∧ n' = l.length + m ∧ Rd w' a' (l ++ news) ∧ Fr S w w' ∧ Rd w' a l := by
  obtain ⟨v', w', hrun, hrow, hfr⟩ := h.append b m c news hm hr hb
  subst hm
  obtain ⟨a', cap', rfl, _, _, hin⟩ := hrow.form
  refine ⟨a', _, cap', w', hrun, by rw [List.length_append], hin.rd, hfr, ?_⟩
  obtain ⟨i0, hi, hz0, hz1, hz2⟩ := info_parts infoU8
  rcases h.1.2 with ⟨_, h0⟩ | ⟨g, cap0, cur, hv, hbg, hg, hnc, hcm, hcs, ht⟩
  · rw [List.eq_nil_of_length_eq_zero h0]
    exact Rd.nil _ _
  · simp only [Value.slice.injEq] at hv
    obtain ⟨rfl, rfl, rfl⟩ := hv
    by_cases h0 : news = []
    · subst h0
      have hrun' : (Builtin.append_ #[22, 22] 22 #[.slice (some ⟨g, 0, none⟩) l.length cap, .slice b 0 c]).run Tryd.prog w = .ok (.slice (some ⟨g, 0, none⟩) l.length cap) w := by
        cases b with
        | none => simp [Builtin.append_, run_underlying Tryd.underlying22, sizeOf, typeInfo, hi, Builtin.lenOf, Builtin.firstCells, hnc, storeCells]
        | some x => simp [Builtin.append_, run_underlying Tryd.underlying22, sizeOf, typeInfo, hi, Builtin.lenOf, Builtin.firstCells, loadCells, loadCellsFrom, hnc, storeCells]
      rw [List.length_nil, hrun'] at hrun
      simp only [Result.ok.injEq] at hrun
      obtain ⟨_, rfl⟩ := hrun
      obtain ⟨a2, cap2, hv2, _, _, hin2⟩ := h.form
      simp only [Value.slice.injEq] at hv2
      obtain ⟨rfl, _⟩ := hv2
      exact hin2.rd
    · obtain ⟨b', o, rfl, hc⟩ := hr (List.length_pos_iff.mpr h0)
      have hnews : ∀ j u, (news.map byt)[j]? = some u → w.cell? ((⟨b', o, none⟩ : Addr).add j) = some u := by
        intro j u hu
        have hj : j < news.length := by
          rcases Nat.lt_or_ge j news.length with h' | h'
          · exact h'
          · rw [List.getElem?_eq_none (by simpa using h')] at hu; cases hu
        have e : (⟨b', o, none⟩ : Addr).add j = ⟨b', o + j, none⟩ := by unfold Addr.add; split <;> simp_all
        rw [e, hc j hj]
        simp [hj] at hu
        simp [List.getD, hj, hu]
      by_cases hroom : l.length + news.length ≤ cap
      · have hr2 := run_append_room (P := Tryd.prog) w 22 22 5 i0 Tryd.underlying22 hi g l.length cap cur hg ⟨b', o, none⟩ news.length c (news.map byt) (by simp [hz1]) hnews (by intro u hu; obtain ⟨x, _, rfl⟩ := List.mem_map.1 hu; rfl) hroom (by rw [List.length_map, hz1, hcs]; omega)
        rw [hrun] at hr2
        simp only [Result.ok.injEq, Value.slice.injEq] at hr2
        obtain ⟨⟨rfl, _⟩, _⟩ := hr2
        exact hin.rd.prefix
      · obtain ⟨a2, cap2, hv2, _, _, hin2⟩ := h.form
        simp only [Value.slice.injEq] at hv2
        obtain ⟨rfl, _, _⟩ := hv2
        have holds : ∀ j u, (l.map byt)[j]? = some u → w.cell? ((⟨g, 0, none⟩ : Addr).add j) = some u := h.1.cells (g := g) rfl
        have hr2 := run_append_grow (P := Tryd.prog) w 22 22 5 i0 (.int .u8 0) Tryd.underlying22 hi hz0 ⟨g, 0, none⟩ l.length cap (l.map byt) (by simp [hz1]) holds ⟨b', o, none⟩ news.length c (news.map byt) (by simp [hz1]) hnews (by omega) (by omega) (growslice_fits (by omega) (by rw [hz2]; omega))
        rw [hrun] at hr2
        simp only [Result.ok.injEq] at hr2
        obtain ⟨_, rfl⟩ := hr2
        exact ((In.of_rd hin2.rd).keep ((Fr.refl No w).drew.alloc _) (fun _ _ h => h)).rd
/-- What is read of a set of blocks, read again. -/
theorem In.again {w w' : World} {S : Nat → Prop} {a : Option Addr} {l : List UInt8} (h : In w S a l) (hr : Rd w' a l) : In w' S a l := fun hl => by
  obtain ⟨b, o, hb, ha, _⟩ := h hl
  obtain ⟨b', o', ha', hc⟩ := hr hl
  rw [ha] at ha'
  simp only [Option.some.injEq, Addr.mk.injEq, and_true] at ha'
  obtain ⟨rfl, rfl⟩ := ha'
  exact ⟨b, o, hb, ha, hc⟩
end Go.Proofs.YtcekgalppbfnhaaDoor
