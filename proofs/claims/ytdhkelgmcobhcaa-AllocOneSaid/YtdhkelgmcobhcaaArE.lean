/-
  Layer 8, the program's own table: slices.Clone of numbers, Queue.
-/
import Derived.Test.YtdhkelgmcobhcaaArA
namespace Go.Proofs.Ytdhkelgmcobhcaa
set_option linter.unusedVariables false
open Go.RowKit

/-- APPEND OF NUMBERS that lie in memory. -/
theorem RowI.append {w : World} {S : Nat → Prop} {v : Value} {l : List Int} (h : RowI w S v l) (a : Option Addr) (m c : Nat) (news : List Int) (hm : news.length = m)
    (hr : 0 < news.length → ∃ b o, a = some ⟨b, o, none⟩ ∧ ∀ i, i < news.length → w.cell? ⟨b, o + i, none⟩ = some (.int .i64 (news.getD i 0)))
    (hb : l.length + m ≤ 1000000000) : ∃ v' w', (Builtin.append_ #[29, 29] 29 #[v, .slice a m c]).run Try.prog w = .ok v' w' ∧ RowI w' (Gr S w w') v' (l ++ news) ∧ Fr S w w' := by
  subst hm
  obtain ⟨i0, hi, hz0, hz1, hz2⟩ := info_parts infoI64
  by_cases h0 : news = []
  · subst h0
    refine ⟨v, w, ?_, ?_, Fr.refl _ _⟩
    · rcases h.1.2 with ⟨rfl, hn⟩ | ⟨g, cap, cur, rfl, _, _, hnc, _⟩
      · cases a with
        | none => simp [Builtin.append_, run_underlying Try.underlying29, sizeOf, typeInfo, hi, Builtin.lenOf, Builtin.firstCells]
        | some x => simp [Builtin.append_, run_underlying Try.underlying29, sizeOf, typeInfo, hi, Builtin.lenOf, Builtin.firstCells, loadCells, loadCellsFrom]
      · cases a with
        | none => simp [Builtin.append_, run_underlying Try.underlying29, sizeOf, typeInfo, hi, Builtin.lenOf, Builtin.firstCells, hnc, storeCells]
        | some x => simp [Builtin.append_, run_underlying Try.underlying29, sizeOf, typeInfo, hi, Builtin.lenOf, Builtin.firstCells, loadCells, loadCellsFrom, hnc, storeCells]
    · rw [List.append_nil]
      exact h.sub fun k _ hk => .inl hk
  · obtain ⟨b, o, rfl, hc⟩ := hr (List.length_pos_iff.mpr h0)
    have hnews : ∀ j u, (news.map ig)[j]? = some u → w.cell? ((⟨b, o, none⟩ : Addr).add j) = some u := by
      intro j u hu
      have hj : j < news.length := by
        rcases Nat.lt_or_ge j news.length with h' | h'
        · exact h'
        · rw [List.getElem?_eq_none (by simpa using h')] at hu; cases hu
      have e : (⟨b, o, none⟩ : Addr).add j = ⟨b, o + j, none⟩ := by unfold Addr.add; split <;> simp_all
      rw [e, hc j hj]
      simp [hj] at hu
      simp [List.getD, hj, hu]
    obtain ⟨v', w', hrun, h2, h3, _, h5⟩ := run_append_own_at (P := Try.prog) w 0 29 29 3 i0 (.int .i64 0) 1 8 Try.underlying29 hi hz0 hz1 hz2 rfl (by decide) v l.length (l.map ig) h.1
      ⟨b, o, none⟩ news.length c (news.map ig) (by simp) hnews (by intro u hu; obtain ⟨x, _, rfl⟩ := List.mem_map.1 hu; rfl) (by unfold maxLen; omega) (by omega) (Nat.zero_le _)
    refine ⟨v', w', hrun, ⟨by rw [List.length_append, List.map_append]; exact h2, fun k hk => ?_⟩, Fr.grown h3 h.2⟩
    rcases h5 with h5 | h5
    · exact .inl (h.2 k (h5 ▸ hk))
    · rw [h5] at hk
      have hk : w.heap.size = k := Option.some.inj hk
      have h6 := (h2.lt k (by rw [h5, hk])).2
      exact .inr ⟨by omega, h6⟩
theorem row_emptyI (w : World) : RowI (w.alloc (.cells #[] 3)) (Gr No w (w.alloc (.cells #[] 3))) (.slice (some ⟨w.heap.size, 0, none⟩) 0 0) [] :=
  ⟨⟨rfl, .inr ⟨w.heap.size, 0, #[], rfl, Nat.zero_le _, heap_alloc_new w _, Nat.le_refl _, by simp [maxLen], rfl, rfl⟩⟩, fun k hk => by
    have : w.heap.size = k := Option.some.inj hk
    subst this
    exact .inr ⟨Nat.le_refl _, by simp⟩⟩
theorem intsRet_of {w w' : World} {S : Nat → Prop} {v : Value} {l : List Nat} (h : RowI w' S v (qs l)) (hl : ∀ x ∈ l, x < 1000000) (f : Fr No w w') : IntsRet l w (.returned v) w' := by
  obtain ⟨a, c, rfl, h1, h2, h3⟩ := h.ints (fun x hx => by
    obtain ⟨y, hy, rfl⟩ := List.mem_map.1 hx
    have := hl y hy
    exact wf_small (by omega) (by omega))
  rw [show (qs l).length = l.length by simp [qs]] at *
  exact ⟨a, c, rfl, h1, h2, h3, f⟩
set_option maxHeartbeats 800000 in
theorem cloneI_c {w : World} {S : Nat → Prop} {v : Value} {l : List Nat} (h : RowI w S v (qs l)) (hl : ∀ x ∈ l, x < 1000000) (hn : l.length ≤ 1000000) :
    Calls Try.prog 43 #[v] w (IntsRet l w) := by
  obtain ⟨a, cap, rfl, hc, hm, hin⟩ := h.form
  rw [show (qs l).length = l.length by simp [qs]] at *
  cases a with
  | none =>
    have h0 : l = [] := by
      rcases Nat.eq_zero_or_pos l.length with h | h
      · exact List.eq_nil_of_length_eq_zero h
      · obtain ⟨_, _, _, e, _⟩ := hin h
        cases e
    subst h0
    have he : ∀ w : World, (binOp .eql 29 (.slice none 0 cap) (.slice none 0 0)).run Try.prog w = .ok (.bool true) w := fun _ => rfl
    clear hin hl hm hc hn h
    simp only [List.length_nil]
    go_enter Try.func43, Try.ntmps43
    go_wp2_with fail
    go_ret
    exact ⟨none, 0, rfl, Nat.le_refl _, by simp [maxLen], fun h => absurd h (by simp), Fr.refl _ _⟩
  | some ad =>
    have R0 := row_emptyI w
    have f0 := (Fr.refl No w).alloc (.cells #[] 3)
    obtain ⟨v1, w1, hrun, hrow, hfr⟩ := R0.append (some ad) l.length cap (qs l) (by simp [qs]) (fun hl0 => by
      rw [show (qs l).length = l.length by simp [qs]] at hl0 ⊢
      obtain ⟨b, o, _, ha, hcell⟩ := hin hl0
      exact ⟨b, o, ha, fun i hi => f0.cell (hcell i hi) (fun h => h)⟩) (by simp; omega)
    rw [List.nil_append] at hrow
    have HRUN := Lib.hid hrun
    have HN : Hid (IntsRet l w (.returned v1) w1) := Lib.hid (intsRet_of hrow hl (f0.then_ hfr fun k hk h => h.elim (fun h => h) fun h => absurd hk (by omega)))
    clear R0 f0 hrun hrow hfr hin hl h
    generalize l.length = len at *
    have he : ∀ w : World, (binOp .eql 29 (.slice (some ad) len cap) (.slice none 0 0)).run Try.prog w = .ok (.bool false) w := fun _ => rfl
    go_enter Try.func43, Try.ntmps43
    go_wp2_with (at_builtin; refine wpList_append_run rfl _ _ 29 rfl rfl rfl HRUN.out ?_)
    go_ret
    exact HN.out
theorem q_le {b : Tb} (hw : WT b) : (∀ x ∈ b.q, x < 64) ∧ b.q.length ≤ 64 := by
  have h8 := hw.n64
  have h7 : ∀ x ∈ b.q, x < 64 := fun x hx => by
    have h7 := ((hw.qr x).1 hx).1
    omega
  have h9 := List.Nodup.length_le_of_subset hw.nd (fun x hx => List.mem_range.2 (h7 x hx))
  rw [List.length_range] at h9
  exact ⟨h7, h9⟩
set_option maxHeartbeats 800000 in
theorem queue_c {w : World} {t : Nat} {F : Nat → Prop} {b : Tb} (h : Ta w t F b) (hw : WT b) : Calls Try.prog 25 #[.pointer (some ⟨t, 0, none⟩)] w (IntsRet b.q w) := by
  obtain ⟨h0, g, a, c, h1, h2, h3, h4⟩ := h
  obtain ⟨c0, c1⟩ := h1.cells
  have hq := q_le hw
  have C := Lib.hid (cloneI_c h1.row (fun x hx => by have := hq.1 x hx; omega) (by omega))
  clear h1 h0 h2 h3 h4 hw hq
  generalize b.q.length = n at *
  go_enter Try.func25, Try.ntmps25
  go_wp2_with fail
  refine C.out.mono ?_
  rintro e w1 ⟨a1, c1, rfl, k1, k2, k3, k4⟩
  have HN : Hid (IntsRet b.q w (.returned (.slice a1 b.q.length c1)) w1) := Lib.hid ⟨a1, c1, rfl, k1, k2, k3, k4⟩
  clear k1 k2 k3 k4 C
  generalize b.q.length = n2 at *
  go_wp2_with fail
  go_ret
  exact HN.out
end Go.Proofs.Ytdhkelgmcobhcaa
