/-
  Texts of layer 14 and of what it stands on, one behind the other.
-/
import Derived.Lib.FrozenHead
import Derived.Maps.AppendAt
import Derived.Laws.IdiomStrings
import Derived.Test.YtihahckjcedceaaDoorMg09
import Derived.Test.YtihahckjcedceaaDoorMg14
import Derived.Lib.Hide
import Derived.Handy
import Derived.WalkKit

/- A row of bytes of the call's own that was made of a text ('[]byte(s)'), and is appended to: its cells may be written, what stands behind them is marked. -/
namespace Go.Proofs.YtihahckjcedceaaDoor
set_option linter.unusedVariables false
open Go.RowKit

/-- Nothing that lies within the row is frozen. -/
def Free (cur : Array Value) (fz : Nat × Nat) : Prop := ∀ i, i < cur.size → ¬ (fz.1 ≤ i ∧ i < fz.2)
theorem run_storeCells_atZ (P : Program) (g o : Nat) (t : TypeId) (fz : Nat × Nat) : ∀ (vs : List Value) (i : Nat) (cur : Array Value) (w : World), w.heap[g]? = some (.cells cur t fz) → Free cur fz → o + i + vs.length ≤ cur.size → (∀ v ∈ vs, v.oneCell' = true) →
    (storeCells ⟨g, o, none⟩ vs i).run P w = .ok () (w.setRow g (cur.toList.take (o + i) ++ vs ++ cur.toList.drop (o + i + vs.length)).toArray)
  | [], i, cur, w, hg, _, _, _ => by
    simp only [storeCells, List.append_nil, List.length_nil, Nat.add_zero, List.take_append_drop, Array.toArray_toList]
    rw [setRow_self w g cur t fz hg]
    rfl
  | v :: rest, i, cur, w, hg, hfz, hl, h1 => by
    have hi : o + i < cur.size := by simp at hl; omega
    have hadd : (⟨g, o, none⟩ : Addr).add i = ⟨g, o + i, none⟩ := by unfold Addr.add; split <;> simp_all
    have hcell : w.cell? ⟨g, o + i, none⟩ = some cur[o + i] := by simp [World.cell?, hg, hi]
    have hfro : w.frozen? ⟨g, o + i, none⟩ = false := by
      have h9 := hfz (o + i) hi
      obtain ⟨lo, hi'⟩ := fz
      simp only [World.frozen?, hg, Bool.and_eq_false_iff, decide_eq_false_iff_not]
      simp only at h9
      omega
    have hst : (store ((⟨g, o, none⟩ : Addr).add i) v).run P w = .ok () (w.setRow g (cur.setIfInBounds (o + i) v)) := by
      rw [hadd, run_store P w _ v _ (h1 v (by simp)), hcell]
      simp [hfro, setCell_eq_setRow w g (o + i) cur t fz v hg]
    have ih := run_storeCells_atZ P g o t fz rest (i + 1) (cur.setIfInBounds (o + i) v) (w.setRow g (cur.setIfInBounds (o + i) v)) (setRow_heap w g cur _ t _ hg) (fun j hj => hfz j (by simpa using hj)) (by simp at hl ⊢; omega) (fun x hx => h1 x (by simp [hx]))
    simp only [storeCells, Sem.run_bind, hst, Result.andThen_ok, ih, setRow_setRow]
    congr 3
    have e := list_seg_step cur.toList (o + i) v rest (by simp at hl ⊢; omega)
    simpa [Array.toList_setIfInBounds, Nat.add_assoc] using e
theorem run_append_roomZ {P : Program} (w : World) (t ty e : TypeId) (i : TypeInfo) (ht : P.underlying t = some (.slice e)) (hi : P.info? e = some i)
    (g sLen sCap : Nat) (cur : Array Value) (fz : Nat × Nat) (hg : w.heap[g]? = some (.cells cur e fz)) (hfz : Free cur fz)
    (a : Addr) (m c : Nat) (news : List Value) (hl : news.length = m * i.size) (hnews : ∀ j u, news[j]? = some u → w.cell? (a.add j) = some u) (h1 : ∀ u ∈ news, u.oneCell' = true)
    (hroom : sLen + m ≤ sCap) (hfit : sLen * i.size + news.length ≤ cur.size) :
    (Builtin.append_ #[t, t] ty #[.slice (some ⟨g, 0, none⟩) sLen sCap, .slice (some a) m c]).run P w =
      .ok (.slice (some ⟨g, 0, none⟩) (sLen + m) sCap) (w.setRow g (cur.toList.take (sLen * i.size) ++ news ++ cur.toList.drop (sLen * i.size + news.length)).toArray) := by
  have hf := run_firstCells_some (P := P) w i.size m a m c news hl hnews
  have hst := run_storeCells_atZ P g (sLen * i.size) e fz news 0 cur w hg hfz (by simpa using hfit) h1
  simp only [Nat.add_zero] at hst
  simp [Builtin.append_, run_underlying ht, sizeOf, typeInfo, hi, Builtin.lenOf, hroom, hf, Addr.add_lit, hst]

/-- A ROW OF BYTES of the call's own, in a block of S. -/
def RowZ (w : World) (S : Nat → Prop) (v : Value) (l : List UInt8) : Prop :=
  ∃ g cap cur fz, v = .slice (some ⟨g, 0, none⟩) l.length cap ∧ S g ∧ w.heap[g]? = some (.cells cur 5 fz) ∧ Free cur fz ∧ l.length ≤ cap ∧ cap ≤ maxLen ∧ cur.size = cap ∧ cur.toList.take l.length = l.map byt
theorem RowZ.sub {w : World} {S T : Nat → Prop} {v : Value} {l : List UInt8} (h : RowZ w S v l) (hs : ∀ k, k < w.heap.size → S k → T k) : RowZ w T v l := by
  obtain ⟨g, cap, cur, fz, h1, h2, h3, h4⟩ := h
  exact ⟨g, cap, cur, fz, h1, hs g (Array.getElem?_eq_some_iff.1 h3).1 h2, h3, h4⟩
theorem RowZ.keep {w w' : World} {S T : Nat → Prop} {v : Value} {l : List UInt8} (h : RowZ w S v l) (f : Fr T w w') (hn : ∀ k, S k → ¬ T k) : RowZ w' S v l := by
  obtain ⟨g, cap, cur, fz, h1, h2, h3, h4⟩ := h
  exact ⟨g, cap, cur, fz, h1, h2, (f.block g (Array.getElem?_eq_some_iff.1 h3).1 (hn g h2)).trans h3, h4⟩
theorem RowZ.form {w : World} {S : Nat → Prop} {v : Value} {l : List UInt8} (h : RowZ w S v l) : ∃ a cap, v = .slice a l.length cap ∧ l.length ≤ cap ∧ cap ≤ maxLen ∧ In w S a l := by
  obtain ⟨g, cap, cur, fz, h1, h2, h3, h4, h5, h6, h7, h8⟩ := h
  refine ⟨_, cap, h1, h5, h6, fun hl => ⟨g, 0, h2, rfl, fun i hi => ?_⟩⟩
  have e : cur.toList[i]? = (l.map byt)[i]? := by
    rw [← h8, List.getElem?_take, if_pos hi]
  rw [Nat.zero_add, cell_of_row w g i cur _ fz h3, ← Array.getElem?_toList, e]
  simp [List.getD, hi]
theorem RowZ.shape {w : World} {S : Nat → Prop} {v : Value} {l : List UInt8} (h : RowZ w S v l) : ∃ a n cap, v = .slice a n cap := by
  obtain ⟨g, cap, cur, fz, h1, _⟩ := h
  exact ⟨_, _, _, h1⟩
/-- APPEND OF BYTES that lie in memory. -/
theorem RowZ.append {w : World} {S : Nat → Prop} {v : Value} {l : List UInt8} (h : RowZ w S v l) (a : Option Addr) (m c : Nat) (news : List UInt8) (hm : news.length = m) (hr : Rd w a news)
    (hb : l.length + m ≤ 140737488355328) : ∃ v' w', (Builtin.append_ #[51, 51] 51 #[v, .slice a m c]).run Tryd.prog w = .ok v' w' ∧ RowZ w' (Gr S w w') v' (l ++ news) ∧ Fr S w w' := by
  subst hm
  obtain ⟨i0, hi, hz0, hz1, hz2⟩ := info_parts infoU8
  obtain ⟨g, cap, cur, fz, rfl, hS, hg, hfz, hnc, hcm, hcs, htake⟩ := h
  by_cases h0 : news = []
  · subst h0
    refine ⟨.slice (some ⟨g, 0, none⟩) l.length cap, w, ?_, ?_, Fr.refl _ _⟩
    · cases a with
      | none => simp [Builtin.append_, run_underlying Tryd.underlying51, sizeOf, typeInfo, hi, Builtin.lenOf, Builtin.firstCells, hnc, storeCells]
      | some x => simp [Builtin.append_, run_underlying Tryd.underlying51, sizeOf, typeInfo, hi, Builtin.lenOf, Builtin.firstCells, loadCells, loadCellsFrom, hnc, storeCells]
    · rw [List.append_nil]
      exact ⟨g, cap, cur, fz, rfl, .inl hS, hg, hfz, hnc, hcm, hcs, htake⟩
  · obtain ⟨b, o, rfl, hc⟩ := hr (List.length_pos_iff.mpr h0)
    have hnews : ∀ j u, (news.map byt)[j]? = some u → w.cell? ((⟨b, o, none⟩ : Addr).add j) = some u := by
      intro j u hu
      have hj : j < news.length := by
        rcases Nat.lt_or_ge j news.length with h' | h'
        · exact h'
        · rw [List.getElem?_eq_none (by simpa using h')] at hu; cases hu
      have e : (⟨b, o, none⟩ : Addr).add j = ⟨b, o + j, none⟩ := by unfold Addr.add; split <;> simp_all
      rw [e, hc j hj]
      simp [hj] at hu
      simp [List.getD, hj, hu]
    have h1 : ∀ u ∈ news.map byt, u.oneCell' = true := by intro u hu; obtain ⟨x, _, rfl⟩ := List.mem_map.1 hu; rfl
    by_cases hroom : l.length + news.length ≤ cap
    · have hr := run_append_roomZ (P := Tryd.prog) w 51 51 5 i0 Tryd.underlying51 hi g l.length cap cur fz hg hfz ⟨b, o, none⟩ news.length c (news.map byt) (by rw [hz1]; simp) hnews h1 hroom (by rw [hz1, List.length_map, hcs]; omega)
      refine ⟨_, _, hr, ⟨g, cap, _, fz, by rw [List.length_append], .inl hS, setRow_heap w g cur _ 5 _ hg, ?_, by rw [List.length_append]; exact hroom, hcm, ?_, ?_⟩, ?_⟩
      · intro i hi2
        refine hfz i ?_
        rw [hz1] at hi2
        simp only [List.size_toArray, List.length_append, List.length_take, List.length_drop, Array.length_toList, List.length_map] at hi2
        omega
      · rw [hz1]
        simp only [List.size_toArray, List.length_append, List.length_take, List.length_drop, Array.length_toList, List.length_map]
        omega
      · rw [hz1, Nat.mul_one, htake, List.length_append, ← List.map_append]
        rw [show l.length + news.length = (List.map byt (l ++ news)).length by simp]
        exact List.take_left
      · exact ⟨rfl, rfl, rfl, by simp, fun k hk hn => setRow_other w g k _ (fun e => hn (e ▸ hS))⟩
    · have holds : ∀ j u, (l.map byt)[j]? = some u → w.cell? ((⟨g, 0, none⟩ : Addr).add j) = some u := by
        intro j u hu
        have hj : j < l.length := by
          rcases Nat.lt_or_ge j l.length with h' | h'
          · exact h'
          · rw [List.getElem?_eq_none (by simpa using h')] at hu; cases hu
        have e : (⟨g, 0, none⟩ : Addr).add j = ⟨g, j, none⟩ := by unfold Addr.add; split <;> simp_all
        rw [e, cell_of_row w g j cur _ fz hg, ← Array.getElem?_toList]
        have : cur.toList[j]? = (l.map byt)[j]? := by rw [← htake, List.getElem?_take, if_pos hj]
        rw [this, hu]
      have hz2' : i0.bytes = 1 := hz2
      have hr := run_append_grow (P := Tryd.prog) w 51 51 5 i0 (.int .u8 0) Tryd.underlying51 hi hz0 ⟨g, 0, none⟩ l.length cap (l.map byt) (by rw [hz1]; simp) holds ⟨b, o, none⟩ news.length c (news.map byt) (by rw [hz1]; simp) hnews (by omega) (by unfold maxLen at hcm; omega) (growslice_fits (by omega) (by rw [hz2']; omega))
      have hge := grownCap_ge w (l.length + news.length) cap 5
      have hcm2 : grownCap w (l.length + news.length) cap 5 ≤ maxLen := grownCap_le_maxLen w (l.length + news.length) cap 5 (by unfold maxLen; omega)
      refine ⟨_, _, hr, ⟨w.heap.size, _, _, (0, 0), by rw [List.length_append], .inr ⟨Nat.le_refl _, by simp⟩, heap_alloc_new w.drew _, fun i _ h => by simp at h, by rw [List.length_append]; exact hge, hcm2, ?_, ?_⟩, (Fr.refl S w).drew.alloc _⟩
      · simp only [Array.size_append, List.size_toArray, size_zeroCells, List.length_map]
        show _ + _ + _ * 1 = _
        omega
      · simp only [Array.toList_append, List.append_assoc]
        rw [← List.append_assoc, ← List.map_append, show (l ++ news).length = (List.map byt (l ++ news)).length by simp]
        exact List.take_left
/-- '[]byte(s)'. -/
theorem conv_strZ (w : World) (s : ByteArray) (hs : s.size ≤ maxLen) : ∃ v w', (convert 9 51 (.string s)).run Tryd.prog w = .ok v w' ∧ RowZ w' (Gr No w w') v (bs s) ∧ Fr No w w' := by
  refine ⟨_, _, run_bytes_of_string w 9 51 5 s Tryd.underlying9 Tryd.underlying51 Tryd.underlying5, ?_, (Fr.refl _ _).drew.alloc _⟩
  have hge := grownCap_ge w s.size 0 5
  have hd : s.data.size = s.size := rfl
  have hz : (bytesRow s (grownCap w s.size 0 5)).size = grownCap w s.size 0 5 := by
    unfold bytesRow
    rw [Array.size_append, Array.size_map, Array.size_replicate]
    omega
  refine ⟨w.heap.size, grownCap w s.size 0 5, _, _, by rw [bs_length], .inr ⟨Nat.le_refl _, by simp⟩, heap_alloc_new w.drew _, fun i hi h => by simp only at h; omega, by rw [bs_length]; exact hge, grownCap_le_maxLen w _ 0 _ hs, hz, ?_⟩
  unfold bytesRow bs
  rw [Array.toList_append, Array.toList_map, List.take_append_of_le_length (by simp), List.take_of_length_le (by simp)]
/-- '[]byte(s)', as it is read. -/
theorem conv_strR (w : World) (s : ByteArray) (hs : s.size ≤ maxLen) : ∃ a c w', (convert 9 51 (.string s)).run Tryd.prog w = .ok (.slice a s.size c) w' ∧ s.size ≤ c ∧ c ≤ maxLen ∧ In w' (Gr No w w') a (bs s) ∧ Fr No w w' := by
  obtain ⟨v, w', h1, h2, h3⟩ := conv_strZ w s hs
  obtain ⟨a, c, rfl, h4, h5, h6⟩ := h2.form
  rw [bs_length] at h1 h4
  exact ⟨a, c, w', h1, h4, h5, h6, h3⟩
/-- Behind what is older: appended to. -/
theorem RowZ.more {w0 w : World} {v : Value} {l : List UInt8} (h : RowZ w (Gr No w0 w) v l) (f : Fr No w0 w) (a : Option Addr) (m c : Nat) (news : List UInt8) (hm : news.length = m) (hr : Rd w a news) (hb : l.length + m ≤ 140737488355328) :
    ∃ v' w', (Builtin.append_ #[51, 51] 51 #[v, .slice a m c]).run Tryd.prog w = .ok v' w' ∧ RowZ w' (Gr No w0 w') v' (l ++ news) ∧ Fr No w0 w' := by
  obtain ⟨v', w', h1, h2, h3⟩ := h.append a m c news hm hr hb
  exact ⟨v', w', h1, h2.sub fun k _ hk => Gr.join f.size h3.size k hk, f.then_ h3 fun k hk h => Gr.old hk h⟩
theorem RowZ.grow {w w1 w2 : World} {v : Value} {l : List UInt8} (h : RowZ w1 (Gr No w w1) v l) (f : Fr No w1 w2) : RowZ w2 (Gr No w w2) v l :=
  (h.keep f fun _ _ h => h).sub fun x _ hx => by
    rcases hx with hx | hx
    · exact hx.elim
    · exact .inr ⟨hx.1, Nat.lt_of_lt_of_le hx.2 f.size⟩
theorem RowZ.more1 {w0 w : World} {v : Value} {l : List UInt8} (h : RowZ w (Gr No w0 w) v l) (f : Fr No w0 w) (c : UInt8) (z : Int) (hz : (c.toNat : Int) = z) (hb : l.length < 140737488355328) :
    ∃ v' w', (Builtin.append_ #[51, 51] 51 #[v, .slice (some ⟨w.heap.size, 0, none⟩) 1 1]).run Tryd.prog (w.alloc (.cells #[.int .u8 z] 5)) = .ok v' w' ∧ RowZ w' (Gr No w0 w') v' (l ++ [c]) ∧ Fr No w0 w' := by
  subst hz
  have f1 : Fr No w (w.alloc (.cells #[.int .u8 (c.toNat : Int)] 5)) := (Fr.refl No w).alloc _
  exact (h.grow f1).more (f.trans f1) _ 1 1 [c] rfl (Rd.one w _ c) (by omega)
theorem RowZ.own {w : World} {S : Nat → Prop} {v : Value} {l : List UInt8} (h : RowZ w S v l) : ∃ g, v.ownBlock = some g ∧ S g ∧ RowZ w (One g) v l := by
  obtain ⟨g, cap, cur, fz, rfl, h2, h3⟩ := h
  exact ⟨g, rfl, h2, g, cap, cur, fz, rfl, rfl, h3⟩
theorem RowZ.at_ {w : World} {S : Nat → Prop} {v : Value} {l : List UInt8} (h : RowZ w S v l) {i : Nat} (hi : i < l.length) :
    ∃ g cap, v = .slice (some ⟨g, 0, none⟩) l.length cap ∧ S g ∧ l.length ≤ cap ∧ cap ≤ maxLen ∧ w.cell? ⟨g, i, none⟩ = some (.int .u8 ((l.getD i 0).toNat : Int)) ∧ w.frozen? ⟨g, i, none⟩ = false ∧
      ∀ c : UInt8, RowZ (w.setCell ⟨g, i, none⟩ (.int .u8 (c.toNat : Int))) S v (l.set i c) ∧ Fr S w (w.setCell ⟨g, i, none⟩ (.int .u8 (c.toNat : Int))) := by
  obtain ⟨g, cap, cur, fz, rfl, hS, hg, hfz, hn, hm, hc, ht⟩ := h
  have e : cur.toList[i]? = (l.map byt)[i]? := by
    rw [← ht, List.getElem?_take, if_pos (by omega)]
  refine ⟨g, cap, rfl, hS, hn, hm, ?_, ?_, fun c => ⟨⟨g, cap, cur.setIfInBounds i (.int .u8 (c.toNat : Int)), fz, by rw [List.length_set], hS, ?_, fun j hj => hfz j (by simpa using hj), by rw [List.length_set]; exact hn, hm, by simpa using hc, ?_⟩, (Fr.refl S w).setCell (fun _ => hS) _⟩⟩
  · rw [cell_of_row w g i cur _ fz hg, ← Array.getElem?_toList, e]
    simp [List.getD, hi]
  · have h9 := hfz i (by omega)
    obtain ⟨lo, hi'⟩ := fz
    simp only [World.frozen?, hg, Bool.and_eq_false_iff, decide_eq_false_iff_not]
    simp only at h9
    omega
  · simp [World.setCell, Array.getElem?_modify, hg]
  · rw [List.length_set, Array.toList_setIfInBounds, List.map_set, List.take_set]
    rw [ht]
/-- A row of bytes of the call's own, or none. -/
def RowQ (w : World) (S : Nat → Prop) (v : Value) (l : List UInt8) : Prop := (v = .slice none 0 0 ∧ l = []) ∨ RowZ w S v l
theorem RowQ.form {w : World} {S : Nat → Prop} {v : Value} {l : List UInt8} (h : RowQ w S v l) : ∃ a cap, v = .slice a l.length cap ∧ l.length ≤ cap ∧ cap ≤ maxLen ∧ In w S a l := by
  rcases h with ⟨rfl, rfl⟩ | h
  · exact ⟨none, 0, rfl, Nat.le_refl _, Nat.zero_le _, In.nil _ _ _⟩
  · exact h.form
theorem RowQ.keep {w w' : World} {S T : Nat → Prop} {v : Value} {l : List UInt8} (h : RowQ w S v l) (f : Fr T w w') (hn : ∀ k, S k → ¬ T k) : RowQ w' S v l := h.elim .inl fun h => .inr (h.keep f hn)
theorem RowQ.some {w : World} {S : Nat → Prop} {v : Value} {l : List UInt8} (h : RowQ w S v l) (hl : 0 < l.length) : RowZ w S v l := by
  rcases h with ⟨_, rfl⟩ | h
  · exact absurd hl (Nat.lt_irrefl 0)
  · exact h
end Go.Proofs.YtihahckjcedceaaDoor

/- Numbers appended to a row of numbers; slices.Clone of numbers. -/
namespace Go.Proofs.YtihahckjcedceaaDoor
set_option linter.unusedVariables false
open Go.RowKit

/-- APPEND OF NUMBERS that lie in memory. -/
theorem RowI.append {w : World} {S : Nat → Prop} {v : Value} {l : List Int} (h : RowI w S v l) (a : Option Addr) (m c : Nat) (news : List Int) (hm : news.length = m)
    (hr : 0 < news.length → ∃ b o, a = some ⟨b, o, none⟩ ∧ ∀ i, i < news.length → w.cell? ⟨b, o + i, none⟩ = some (.int .i64 (news.getD i 0)))
    (hb : l.length + m ≤ 1000000000) : ∃ v' w', (Builtin.append_ #[85, 85] 85 #[v, .slice a m c]).run Tryd.prog w = .ok v' w' ∧ RowI w' (Gr S w w') v' (l ++ news) ∧ Fr S w w' := by
  subst hm
  obtain ⟨i0, hi, hz0, hz1, hz2⟩ := info_parts infoI64
  by_cases h0 : news = []
  · subst h0
    refine ⟨v, w, ?_, ?_, Fr.refl _ _⟩
    · rcases h.1.2 with ⟨rfl, hn⟩ | ⟨g, cap, cur, rfl, _, _, hnc, _⟩
      · cases a with
        | none => simp [Builtin.append_, run_underlying Tryd.underlying85, sizeOf, typeInfo, hi, Builtin.lenOf, Builtin.firstCells]
        | some x => simp [Builtin.append_, run_underlying Tryd.underlying85, sizeOf, typeInfo, hi, Builtin.lenOf, Builtin.firstCells, loadCells, loadCellsFrom]
      · cases a with
        | none => simp [Builtin.append_, run_underlying Tryd.underlying85, sizeOf, typeInfo, hi, Builtin.lenOf, Builtin.firstCells, hnc, storeCells]
        | some x => simp [Builtin.append_, run_underlying Tryd.underlying85, sizeOf, typeInfo, hi, Builtin.lenOf, Builtin.firstCells, loadCells, loadCellsFrom, hnc, storeCells]
    · rw [List.append_nil]
      exact h.sub fun k _ hk => .inl hk
  · obtain ⟨b, o, rfl, hc⟩ := hr (List.length_pos_iff.mpr h0)
    have hnews : ∀ j u, (news.map ig)[j]? = some u → w.cell? ((⟨b, o, none⟩ : Addr).add j) = some u := by
      intro j u hu
      have hj : j < news.length := by
        rcases Nat.lt_or_ge j news.length with h' | h'
        · exact h'
        · rw [List.getElem?_eq_none (by simpa using h')] at hu; cases hu
      have e : (⟨b, o, none⟩ : Addr).add j = ⟨b, o + j, none⟩ := by unfold Addr.add; split <;> simp_all
      rw [e, hc j hj]
      simp [hj] at hu
      simp [List.getD, hj, hu]
    obtain ⟨v', w', hrun, h2, h3, _, h5⟩ := run_append_own_at (P := Tryd.prog) w 0 85 85 3 i0 (.int .i64 0) 1 8 Tryd.underlying85 hi hz0 hz1 hz2 rfl (by decide) v l.length (l.map ig) h.1
      ⟨b, o, none⟩ news.length c (news.map ig) (by simp) hnews (by intro u hu; obtain ⟨x, _, rfl⟩ := List.mem_map.1 hu; rfl) (by unfold maxLen; omega) (by omega) (Nat.zero_le _)
    refine ⟨v', w', hrun, ⟨by rw [List.length_append, List.map_append]; exact h2, fun k hk => ?_⟩, Fr.grown h3 h.2⟩
    rcases h5 with h5 | h5
    · exact .inl (h.2 k (h5 ▸ hk))
    · rw [h5] at hk
      have hk : w.heap.size = k := Option.some.inj hk
      have h6 := (h2.lt k (by rw [h5, hk])).2
      exact .inr ⟨by omega, h6⟩
theorem row_emptyI (w : World) : RowI (w.alloc (.cells #[] 3)) (Gr No w (w.alloc (.cells #[] 3))) (.slice (some ⟨w.heap.size, 0, none⟩) 0 0) [] :=
  ⟨⟨rfl, .inr ⟨w.heap.size, 0, #[], rfl, Nat.zero_le _, heap_alloc_new w _, Nat.le_refl _, by simp [maxLen], rfl, rfl⟩⟩, fun k hk => by
    have : w.heap.size = k := Option.some.inj hk
    subst this
    exact .inr ⟨Nat.le_refl _, by simp⟩⟩
/-- Numbers of which nothing is asked but that they lie in memory. -/
def Nums (w : World) (a : Option Addr) (l : List Int) : Prop := 0 < l.length → ∃ b o, a = some ⟨b, o, none⟩ ∧ ∀ i, i < l.length → w.cell? ⟨b, o + i, none⟩ = some (.int .i64 (l.getD i 0))
theorem Nums.keep {w w' : World} {a : Option Addr} {l : List Int} (h : Nums w a l) (f : Fr No w w') : Nums w' a l := fun h0 => by
  obtain ⟨b, o, ha, hc⟩ := h h0
  exact ⟨b, o, ha, fun i hi => f.cell (hc i hi) (fun h => h)⟩
theorem RowI.nums {w : World} {S : Nat → Prop} {v : Value} {l : List Int} (h : RowI w S v l) : ∃ a cap, v = .slice a l.length cap ∧ l.length ≤ cap ∧ cap ≤ maxLen ∧ Nums w a l := by
  obtain ⟨a, cap, rfl, h1, h2, h3⟩ := h.form
  refine ⟨a, cap, rfl, h1, h2, fun h0 => ?_⟩
  obtain ⟨b, o, _, ha, hc⟩ := h3 h0
  exact ⟨b, o, ha, hc⟩
def NewRowI' (l : List Int) (w : World) (e : Ending) (w' : World) : Prop := ∃ v, e = .returned v ∧ RowI w' (Gr No w w') v l ∧ Fr No w w'
set_option maxRecDepth 20000 in
set_option maxHeartbeats 800000 in
theorem cloneInts_c {w : World} {a : Option Addr} {n cap : Nat} {l : List Int} (hl : l.length = n) (hn : n ≤ 1000000) (hr : Nums w a l) :
    Calls Tryd.prog 41 #[.slice a n cap] w (NewRowI' l w) := by
  cases a with
  | none =>
    have h0 : l = [] := by
      rcases Nat.eq_zero_or_pos l.length with h | h
      · exact List.eq_nil_of_length_eq_zero h
      · obtain ⟨_, _, e, _⟩ := hr h
        cases e
    subst h0
    obtain rfl : 0 = n := hl
    have he : ∀ w : World, (binOp .eql 85 (.slice none 0 cap) (.slice none 0 0)).run Tryd.prog w = .ok (.bool true) w := fun _ => rfl
    go_enter Tryd.func41, Tryd.ntmps41
    go_wp2_with fail
    go_ret
    exact ⟨_, rfl, RowI.nil _ _, Fr.refl _ _⟩
  | some ad =>
    have R0 := row_emptyI w
    have f0 := (Fr.refl No w).alloc (.cells #[] 3)
    obtain ⟨v1, w1, hrun, hrow, hfr⟩ := R0.append (some ad) n cap l hl (hr.keep f0) (by simp; omega)
    rw [List.nil_append] at hrow
    have HRUN := Lib.hid hrun
    have HN : Hid (NewRowI' l w (.returned v1) w1) := Lib.hid ⟨v1, rfl, hrow.join f0.size hfr.size, f0.then_ hfr fun k hk h => h.elim (fun h => h) fun h => absurd hk (by omega)⟩
    clear R0 f0 hrun hrow hfr hr hl
    have he : ∀ w : World, (binOp .eql 85 (.slice (some ad) n cap) (.slice none 0 0)).run Tryd.prog w = .ok (.bool false) w := fun _ => rfl
    go_enter Tryd.func41, Tryd.ntmps41
    go_wp2_with (at_builtin; refine wpList_append_run rfl _ _ 85 rfl rfl rfl HRUN.out ?_)
    go_ret
    exact HN.out
end Go.Proofs.YtihahckjcedceaaDoor
