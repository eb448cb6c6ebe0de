/-
  Numbers appended to a row of numbers; slices.Clone of numbers.
-/
import Derived.Test.YtmkadpjacidlkaaMemI
import Derived.Lib.Hide
import Derived.Handy
import Derived.WalkKit
namespace Go.Proofs.Ytmkadpjacidlkaa
set_option linter.unusedVariables false
open Go.RowKit

/-- APPEND OF NUMBERS that lie in memory. -/
theorem RowI.append {w : World} {S : Nat → Prop} {v : Value} {l : List Int} (h : RowI w S v l) (a : Option Addr) (m c : Nat) (news : List Int) (hm : news.length = m)
    (hr : 0 < news.length → ∃ b o, a = some ⟨b, o, none⟩ ∧ ∀ i, i < news.length → w.cell? ⟨b, o + i, none⟩ = some (.int .i64 (news.getD i 0)))
    (hb : l.length + m ≤ 1000000000) : ∃ v' w', (Builtin.append_ #[29, 29] 29 #[v, .slice a m c]).run Try.prog w = .ok v' w' ∧ RowI w' (Gr S w w') v' (l ++ news) ∧ Fr S w w' := by
  subst hm
  obtain ⟨i0, hi, hz0, hz1, hz2⟩ := info_parts infoI64
  by_cases h0 : news = []
  · subst h0
    refine ⟨v, w, ?_, ?_, Fr.refl _ _⟩
    · rcases h.1.2 with ⟨rfl, hn⟩ | ⟨g, cap, cur, rfl, _, _, hnc, _⟩
      · cases a with
        | none => simp [Builtin.append_, run_underlying Try.underlying29, sizeOf, typeInfo, hi, Builtin.lenOf, Builtin.firstCells]
        | some x => simp [Builtin.append_, run_underlying Try.underlying29, sizeOf, typeInfo, hi, Builtin.lenOf, Builtin.firstCells, loadCells, loadCellsFrom]
      · cases a with
        | none => simp [Builtin.append_, run_underlying Try.underlying29, sizeOf, typeInfo, hi, Builtin.lenOf, Builtin.firstCells, hnc, storeCells]
        | some x => simp [Builtin.append_, run_underlying Try.underlying29, sizeOf, typeInfo, hi, Builtin.lenOf, Builtin.firstCells, loadCells, loadCellsFrom, hnc, storeCells]
    · rw [List.append_nil]
      exact h.sub fun k _ hk => .inl hk
  · obtain ⟨b, o, rfl, hc⟩ := hr (List.length_pos_iff.mpr h0)
    have hnews : ∀ j u, (news.map ig)[j]? = some u → w.cell? ((⟨b, o, none⟩ : Addr).add j) = some u := by
      intro j u hu
      have hj : j < news.length := by
        rcases Nat.lt_or_ge j news.length with h' | h'
        · exact h'
        · rw [List.getElem?_eq_none (by simpa using h')] at hu; cases hu
      have e : (⟨b, o, none⟩ : Addr).add j = ⟨b, o + j, none⟩ := by unfold Addr.add; split <;> simp_all
      rw [e, hc j hj]
      simp [hj] at hu
      simp [List.getD, hj, hu]
    obtain ⟨v', w', hrun, h2, h3, _, h5⟩ := run_append_own_at (P := Try.prog) w 0 29 29 3 i0 (.int .i64 0) 1 8 Try.underlying29 hi hz0 hz1 hz2 rfl (by decide) v l.length (l.map ig) h.1
      ⟨b, o, none⟩ news.length c (news.map ig) (by simp) hnews (by intro u hu; obtain ⟨x, _, rfl⟩ := List.mem_map.1 hu; rfl) (by unfold maxLen; omega) (by omega) (Nat.zero_le _)
    refine ⟨v', w', hrun, ⟨by rw [List.length_append, List.map_append]; exact h2, fun k hk => ?_⟩, Fr.grown h3 h.2⟩
    rcases h5 with h5 | h5
    · exact .inl (h.2 k (h5 ▸ hk))
    · rw [h5] at hk
      have hk : w.heap.size = k := Option.some.inj hk
      have h6 := (h2.lt k (by rw [h5, hk])).2
      exact .inr ⟨by omega, h6⟩
theorem row_emptyI (w : World) : RowI (w.alloc (.cells #[] 3)) (Gr No w (w.alloc (.cells #[] 3))) (.slice (some ⟨w.heap.size, 0, none⟩) 0 0) [] :=
  ⟨⟨rfl, .inr ⟨w.heap.size, 0, #[], rfl, Nat.zero_le _, heap_alloc_new w _, Nat.le_refl _, by simp [maxLen], rfl, rfl⟩⟩, fun k hk => by
    have : w.heap.size = k := Option.some.inj hk
    subst this
    exact .inr ⟨Nat.le_refl _, by simp⟩⟩
/-- Numbers of which nothing is asked but that they lie in memory. -/
def Nums (w : World) (a : Option Addr) (l : List Int) : Prop := 0 < l.length → ∃ b o, a = some ⟨b, o, none⟩ ∧ ∀ i, i < l.length → w.cell? ⟨b, o + i, none⟩ = some (.int .i64 (l.getD i 0))
theorem Nums.keep {w w' : World} {a : Option Addr} {l : List Int} (h : Nums w a l) (f : Fr No w w') : Nums w' a l := fun h0 => by
  obtain ⟨b, o, ha, hc⟩ := h h0
  exact ⟨b, o, ha, fun i hi => f.cell (hc i hi) (fun h => h)⟩
theorem RowI.nums {w : World} {S : Nat → Prop} {v : Value} {l : List Int} (h : RowI w S v l) : ∃ a cap, v = .slice a l.length cap ∧ l.length ≤ cap ∧ cap ≤ maxLen ∧ Nums w a l := by
  obtain ⟨a, cap, rfl, h1, h2, h3⟩ := h.form
  refine ⟨a, cap, rfl, h1, h2, fun h0 => ?_⟩
  obtain ⟨b, o, _, ha, hc⟩ := h3 h0
  exact ⟨b, o, ha, hc⟩
def NewRowI' (l : List Int) (w : World) (e : Ending) (w' : World) : Prop := ∃ v, e = .returned v ∧ RowI w' (Gr No w w') v l ∧ Fr No w w'
set_option maxRecDepth 20000 in
set_option maxHeartbeats 800000 in
theorem cloneInts_c {w : World} {a : Option Addr} {n cap : Nat} {l : List Int} (hl : l.length = n) (hn : n ≤ 1000000) (hr : Nums w a l) :
    Calls Try.prog 39 #[.slice a n cap] w (NewRowI' l w) := by
  cases a with
  | none =>
    have h0 : l = [] := by
      rcases Nat.eq_zero_or_pos l.length with h | h
      · exact List.eq_nil_of_length_eq_zero h
      · obtain ⟨_, _, e, _⟩ := hr h
        cases e
    subst h0
    obtain rfl : 0 = n := hl
    have he : ∀ w : World, (binOp .eql 29 (.slice none 0 cap) (.slice none 0 0)).run Try.prog w = .ok (.bool true) w := fun _ => rfl
    go_enter Try.func39, Try.ntmps39
    go_wp2_with fail
    go_ret
    exact ⟨_, rfl, RowI.nil _ _, Fr.refl _ _⟩
  | some ad =>
    have R0 := row_emptyI w
    have f0 := (Fr.refl No w).alloc (.cells #[] 3)
    obtain ⟨v1, w1, hrun, hrow, hfr⟩ := R0.append (some ad) n cap l hl (hr.keep f0) (by simp; omega)
    rw [List.nil_append] at hrow
    have HRUN := Lib.hid hrun
    have HN : Hid (NewRowI' l w (.returned v1) w1) := Lib.hid ⟨v1, rfl, hrow.join f0.size hfr.size, f0.then_ hfr fun k hk h => h.elim (fun h => h) fun h => absurd hk (by omega)⟩
    clear R0 f0 hrun hrow hfr hr hl
    have he : ∀ w : World, (binOp .eql 29 (.slice (some ad) n cap) (.slice none 0 0)).run Try.prog w = .ok (.bool false) w := fun _ => rfl
    go_enter Try.func39, Try.ntmps39
    go_wp2_with (at_builtin; refine wpList_append_run rfl _ _ 29 rfl rfl rfl HRUN.out ?_)
    go_ret
    exact HN.out
end Go.Proofs.Ytmkadpjacidlkaa
