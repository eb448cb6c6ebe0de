/-
  Texts of layer 13 and of what it stands on, one behind the other.
-/
import Derived.Test.YtlobnbbndkhcbaaGreatDoorMg01

/- Words for memory: a row of bytes of the call's own ('Row'). -/
namespace Go.Proofs.YtlobnbbndkhcbaaGreatDoor
set_option linter.unusedVariables false
open Go.RowKit

/-! ### A row of bytes of the call's own. -/
def Row (w : World) (S : Nat → Prop) (v : Value) (l : List UInt8) : Prop := w.ownsRow 0 5 1 v l.length (l.map byt) ∧ ∀ k, v.ownBlock = some k → S k
theorem Row.nil (w : World) (S : Nat → Prop) : Row w S (.slice none 0 0) [] := ⟨World.ownsRow_nil w 0 _ 1, fun k h => by simp [Value.ownBlock] at h⟩
theorem Row.sub {w : World} {S T : Nat → Prop} {v : Value} {l : List UInt8} (h : Row w S v l) (hs : ∀ k, k < w.heap.size → S k → T k) : Row w T v l :=
  ⟨h.1, fun k hk => hs k (h.1.lt k hk).2 (h.2 k hk)⟩
theorem Row.keep {w w' : World} {S T : Nat → Prop} {v : Value} {l : List UInt8} (h : Row w S v l) (f : Fr T w w') (hn : ∀ k, S k → ¬ T k) : Row w' S v l := by
  obtain ⟨⟨h1, h2⟩, h3⟩ := h
  refine ⟨⟨h1, ?_⟩, h3⟩
  rcases h2 with h2 | ⟨g, cap, cur, rfl, hb, hg, rest⟩
  · exact .inl h2
  · exact .inr ⟨g, cap, cur, rfl, hb, (f.block g (Array.getElem?_eq_some_iff.1 hg).1 (hn g (h3 g rfl))).trans hg, rest⟩
/-- A row is a slice that is read. -/
theorem Row.form {w : World} {S : Nat → Prop} {v : Value} {l : List UInt8} (h : Row w S v l) : ∃ a cap, v = .slice a l.length cap ∧ l.length ≤ cap ∧ cap ≤ maxLen ∧ In w S a l := by
  obtain ⟨⟨h1, h2⟩, h3⟩ := h
  rcases h2 with ⟨rfl, h0⟩ | ⟨g, cap, cur, rfl, hb, hg, hn, hm, hc, ht⟩
  · have : l = [] := List.eq_nil_of_length_eq_zero h0
    subst this
    exact ⟨none, 0, rfl, Nat.le_refl _, by simp [maxLen], In.nil _ _ _⟩
  · refine ⟨some ⟨g, 0, none⟩, cap, rfl, hn, hm, fun hl => ⟨g, 0, h3 g rfl, rfl, fun i hi => ?_⟩⟩
    rw [Nat.zero_add, cell_of_row w g i cur _ (0, 0) hg]
    have e : cur.toList[i]? = (l.map byt)[i]? := by
      rw [← ht, List.getElem?_take, if_pos (by omega)]
    rw [← Array.getElem?_toList, e]
    simp [List.getD, hi]
theorem Row.block {w : World} {S : Nat → Prop} {v : Value} {l : List UInt8} (h : Row w S v l) {k : Nat} (hk : v.ownBlock = some k) : S k ∧ k < w.heap.size := ⟨h.2 k hk, (h.1.lt k hk).2⟩

theorem Row.shape {w : World} {S : Nat → Prop} {v : Value} {l : List UInt8} (h : Row w S v l) : ∃ a n cap, v = .slice a n cap := by
  obtain ⟨a, cap, h1, _⟩ := h.form
  exact ⟨a, _, cap, h1⟩
theorem infoU8 : (Tryz.prog.info? 5).map (fun i => (i.zero, i.size, i.bytes)) = some (some (.int .u8 0), 1, 1) := by kernel_rfl

/-- APPEND TO A ROW of the call's own: whatever is read, nil let in. -/
theorem Row.append {w : World} {S : Nat → Prop} {v : Value} {l : List UInt8} (h : Row w S v l) (a : Option Addr) (m c : Nat) (news : List UInt8) (hm : news.length = m) (hr : Rd w a news)
    (hb : l.length + m ≤ 140737488355328) : ∃ v' w', (Builtin.append_ #[27, 27] 27 #[v, .slice a m c]).run Tryz.prog w = .ok v' w' ∧ Row w' (Gr S w w') v' (l ++ news) ∧ Fr S w w' := by
  subst hm
  obtain ⟨i0, hi, hz0, hz1, hz2⟩ := info_parts infoU8
  by_cases h0 : news = []
  · subst h0
    refine ⟨v, w, ?_, ?_, Fr.refl _ _⟩
    · rcases h.1.2 with ⟨rfl, hn⟩ | ⟨g, cap, cur, rfl, _, _, hnc, _⟩
      · cases a with
        | none => simp [Builtin.append_, run_underlying Tryz.underlying27, sizeOf, typeInfo, hi, Builtin.lenOf, Builtin.firstCells]
        | some x => simp [Builtin.append_, run_underlying Tryz.underlying27, sizeOf, typeInfo, hi, Builtin.lenOf, Builtin.firstCells, loadCells, loadCellsFrom]
      · cases a with
        | none => simp [Builtin.append_, run_underlying Tryz.underlying27, sizeOf, typeInfo, hi, Builtin.lenOf, Builtin.firstCells, hnc, storeCells]
        | some x => simp [Builtin.append_, run_underlying Tryz.underlying27, sizeOf, typeInfo, hi, Builtin.lenOf, Builtin.firstCells, loadCells, loadCellsFrom, hnc, storeCells]
    · rw [List.append_nil]
      exact h.sub fun k _ hk => .inl hk
  · obtain ⟨b, o, rfl, hc⟩ := hr (List.length_pos_iff.mpr h0)
    have hnews : ∀ j u, (news.map byt)[j]? = some u → w.cell? ((⟨b, o, none⟩ : Addr).add j) = some u := by
      intro j u hu
      have hj : j < news.length := by
        rcases Nat.lt_or_ge j news.length with h' | h'
        · exact h'
        · rw [List.getElem?_eq_none (by simpa using h')] at hu; cases hu
      have e : (⟨b, o, none⟩ : Addr).add j = ⟨b, o + j, none⟩ := by unfold Addr.add; split <;> simp_all
      rw [e, hc j hj]
      simp [hj] at hu
      simp [List.getD, hj, hu]
    obtain ⟨v', w', hrun, h2, h3, _, h5⟩ := run_append_own_at (P := Tryz.prog) w 0 27 27 5 i0 (.int .u8 0) 1 1 Tryz.underlying27 hi hz0 hz1 hz2 rfl (by decide) v l.length (l.map byt) h.1
      ⟨b, o, none⟩ news.length c (news.map byt) (by simp) hnews (by intro u hu; obtain ⟨x, _, rfl⟩ := List.mem_map.1 hu; rfl) (by unfold maxLen; omega) (by omega) (Nat.zero_le _)
    refine ⟨v', w', hrun, ⟨by rw [List.length_append, List.map_append]; exact h2, fun k hk => ?_⟩, Fr.grown h3 h.2⟩
    rcases h5 with h5 | h5
    · exact .inl (h.2 k (h5 ▸ hk))
    · rw [h5] at hk
      have hk : w.heap.size = k := Option.some.inj hk
      have h6 := (h2.lt k (by rw [h5, hk])).2
      exact .inr ⟨by omega, h6⟩
/-- What is new behind two steps is new. -/
theorem Gr.join {S : Nat → Prop} {a b c : World} (h1 : a.heap.size ≤ b.heap.size) (h2 : b.heap.size ≤ c.heap.size) (k : Nat) (h : Gr (Gr S a b) b c k) : Gr S a c k := by
  rcases h with (h | h) | h
  · exact .inl h
  · exact .inr ⟨h.1, by omega⟩
  · exact .inr ⟨by omega, h.2⟩
theorem Gr.old {S : Nat → Prop} {a b : World} {k : Nat} (hk : k < a.heap.size) (h : Gr S a b k) : S k := by
  rcases h with h | h
  · exact h
  · omega
theorem Row.join {S : Nat → Prop} {a b c : World} {v : Value} {l : List UInt8} (h : Row c (Gr (Gr S a b) b c) v l) (h1 : a.heap.size ≤ b.heap.size) (h2 : b.heap.size ≤ c.heap.size) : Row c (Gr S a c) v l :=
  h.sub fun k _ hk => Gr.join h1 h2 k hk
theorem In.join {S : Nat → Prop} {a b c : World} {v : Option Addr} {l : List UInt8} (h : In c (Gr (Gr S a b) b c) v l) (h1 : a.heap.size ≤ b.heap.size) (h2 : b.heap.size ≤ c.heap.size) : In c (Gr S a c) v l :=
  h.sub fun k _ hk => Gr.join h1 h2 k hk
theorem Rd.one (w : World) (t : TypeId) (c : UInt8) : Rd (w.alloc (.cells #[.int .u8 (c.toNat : Int)] t)) (some ⟨w.heap.size, 0, none⟩) [c] := fun _ => by
  refine ⟨_, _, rfl, fun i hi => ?_⟩
  have h : i = 0 := by simpa using hi
  subst h
  exact At.cell (At.new w t #[.int .u8 (c.toNat : Int)]) 0
/-- APPEND OF ONE BYTE, which lies in a new block of its own. -/
theorem Row.push {w : World} {S : Nat → Prop} {v : Value} {l : List UInt8} (h : Row w S v l) (hS : ∀ k, S k → k < w.heap.size) (c : UInt8) (hb : l.length < 140737488355328) :
    ∃ v' w', (Builtin.append_ #[27, 27] 27 #[v, .slice (some ⟨w.heap.size, 0, none⟩) 1 1]).run Tryz.prog (w.alloc (.cells #[.int .u8 (c.toNat : Int)] 5)) = .ok v' w' ∧ Row w' (Gr S w w') v' (l ++ [c]) ∧ Fr S w w' := by
  have f := (Fr.refl No w).alloc (.cells #[.int .u8 (c.toNat : Int)] 5)
  obtain ⟨v', w', h1, h2, h3⟩ := (h.keep f fun _ _ h => h).append (some ⟨w.heap.size, 0, none⟩) 1 1 [c] rfl (Rd.one w _ c) (by omega)
  refine ⟨v', w', h1, h2.sub fun k _ hk => ?_, (f.sub fun _ _ h => h.elim).then_ h3 fun _ _ h => h⟩
  rcases hk with hk | hk
  · exact .inl hk
  · exact .inr ⟨by have := f.size; omega, hk.2⟩
/-- A STORE INTO A ROW. -/
theorem Row.at_ {w : World} {S : Nat → Prop} {v : Value} {l : List UInt8} (h : Row w S v l) {i : Nat} (hi : i < l.length) :
    ∃ g cap, v = .slice (some ⟨g, 0, none⟩) l.length cap ∧ S g ∧ l.length ≤ cap ∧ cap ≤ maxLen ∧ w.cell? ⟨g, i, none⟩ = some (.int .u8 ((l.getD i 0).toNat : Int)) ∧ w.frozen? ⟨g, i, none⟩ = false ∧
      ∀ c : UInt8, Row (w.setCell ⟨g, i, none⟩ (.int .u8 (c.toNat : Int))) S v (l.set i c) ∧ Fr S w (w.setCell ⟨g, i, none⟩ (.int .u8 (c.toNat : Int))) := by
  obtain ⟨⟨h1, h2⟩, h3⟩ := h
  rcases h2 with ⟨rfl, h0⟩ | ⟨g, cap, cur, rfl, hb, hg, hn, hm, hc, ht⟩
  · omega
  · have e : cur.toList[i]? = (l.map byt)[i]? := by
      rw [← ht, List.getElem?_take, if_pos (by omega)]
    refine ⟨g, cap, rfl, h3 g rfl, hn, hm, ?_, ?_, fun c => ⟨⟨⟨by simp, .inr ⟨g, cap, cur.setIfInBounds i (.int .u8 (c.toNat : Int)), by rw [List.length_set], Nat.zero_le _, ?_, by rw [List.length_set]; exact hn, hm, by simpa using hc, ?_⟩⟩, h3⟩, (Fr.refl S w).setCell (fun _ => h3 g rfl) _⟩⟩
    · rw [cell_of_row w g i cur _ (0, 0) hg, ← Array.getElem?_toList, e]
      simp [List.getD, hi]
    · simp [World.frozen?, hg]
    · simp [World.setCell, Array.getElem?_modify, hg]
    · rw [List.length_set, Nat.mul_one, Array.toList_setIfInBounds, List.map_set, List.take_set]
      rw [Nat.mul_one] at ht
      rw [ht]
end Go.Proofs.YtlobnbbndkhcbaaGreatDoor
