/-
  Words for memory: what has turned but within a set of blocks ('Fr'); bytes that are read and lie within a set of blocks ('In'); a row of bytes of the call's own ('Row'); a block known whole ('At').
-/
import Derived.Test.YtbglicndccdaiaaDoorFrame
import Derived.Laws.OwnMore
import Derived.Maps.AppendAt
import Derived.Deep.Draws
namespace Go.Proofs.YtbglicndccdaiaaDoor
set_option linter.unusedVariables false
open Go.RowKit

/-- Blocks that were there and are not of S are as they were. -/
structure Fr (S : Nat → Prop) (w w' : World) : Prop where
  os : w'.os = w.os
  tape : w'.tape = w.tape
  output : w'.output = w.output
  size : w.heap.size ≤ w'.heap.size
  block : ∀ k, k < w.heap.size → ¬ S k → w'.heap[k]? = w.heap[k]?

/-- S, and what is new. -/
def Gr (S : Nat → Prop) (w w' : World) : Nat → Prop := fun k => S k ∨ (w.heap.size ≤ k ∧ k < w'.heap.size)
def No : Nat → Prop := fun _ => False
def One (b : Nat) : Nat → Prop := fun k => k = b
def Two (S T : Nat → Prop) : Nat → Prop := fun k => S k ∨ T k
/-- From block B on. -/
def From (b : Nat) : Nat → Prop := fun k => b ≤ k
def Till (b : Nat) : Nat → Prop := fun k => k < b

theorem Fr.refl (S : Nat → Prop) (w : World) : Fr S w w := ⟨rfl, rfl, rfl, Nat.le_refl _, fun _ _ _ => rfl⟩
theorem Fr.sub {S T : Nat → Prop} {w w' : World} (h : Fr S w w') (hs : ∀ k, k < w.heap.size → S k → T k) : Fr T w w' :=
  ⟨h.os, h.tape, h.output, h.size, fun k hk hn => h.block k hk fun hS => hn (hs k hk hS)⟩
/-- Behind a step that may turn T: T within S, or new. -/
theorem Fr.then_ {S T : Nat → Prop} {a b c : World} (h : Fr S a b) (k : Fr T b c) (ht : ∀ x, x < a.heap.size → T x → S x) : Fr S a c :=
  ⟨k.os.trans h.os, k.tape.trans h.tape, k.output.trans h.output, Nat.le_trans h.size k.size, fun x hx hn => (k.block x (Nat.lt_of_lt_of_le hx h.size) fun hT => hn (ht x hx hT)).trans (h.block x hx hn)⟩
theorem Fr.trans {S : Nat → Prop} {a b c : World} (h : Fr S a b) (k : Fr S b c) : Fr S a c := h.then_ k fun _ _ h => h
theorem Fr.drew {S : Nat → Prop} {a w : World} (h : Fr S a w) : Fr S a w.drew := ⟨h.os, h.tape, h.output, h.size, h.block⟩
theorem Fr.drewN {S : Nat → Prop} {a w : World} (h : Fr S a w) (n : Nat) : Fr S a (w.drewN n) := ⟨h.os, h.tape, h.output, h.size, h.block⟩
theorem Fr.alloc {S : Nat → Prop} {a w : World} (h : Fr S a w) (o : Obj) : Fr S a (w.alloc o) :=
  ⟨h.os, h.tape, h.output, Nat.le_trans h.size (by simp), fun k hk hn => (Below.heap_alloc w o k (Nat.lt_of_lt_of_le hk h.size)).trans (h.block k hk hn)⟩
theorem Fr.setCell {S : Nat → Prop} {a w : World} (h : Fr S a w) {p : Addr} (hp : p.block < a.heap.size → S p.block) (u : Value) : Fr S a (w.setCell p u) :=
  ⟨h.os, h.tape, h.output, by simpa [World.setCell] using h.size, fun k hk hn => (Below.heap_setCell w p u k (by rintro rfl; exact hn (hp hk))).trans (h.block k hk hn)⟩
theorem Fr.grown {S : Nat → Prop} {w w' : World} {row : Option Nat} (hg : w.grownBy w' row) (hr : ∀ k, row = some k → S k) : Fr S w w' :=
  ⟨hg.os, hg.tape, hg.output, hg.size, fun k hk hn => hg.block k hk fun e => hn (hr k e.symm)⟩
theorem Fr.below {S : Nat → Prop} {w w' : World} {B : Nat} (h : Fr S w w') (hB : B ≤ w.heap.size) (hS : ∀ k, S k → B ≤ k) : Below B w w' :=
  ⟨h.os, h.tape, h.output, h.size, fun k hk => h.block k (Nat.lt_of_lt_of_le hk hB) fun hs => absurd (hS k hs) (by omega)⟩
theorem Fr.of_below {w w' : World} {B : Nat} (h : Below B w w') : Fr (From B) w w' :=
  ⟨h.os, h.tape, h.output, h.size, fun k hk hn => h.block k (by unfold From at hn; omega)⟩
theorem Fr.cell {S : Nat → Prop} {w w' : World} (h : Fr S w w') {p : Addr} {v : Value} (hc : w.cell? p = some v) (hn : ¬ S p.block) : w'.cell? p = some v :=
  (World.cell?_of_block (h.block p.block (cell_block hc) hn)).trans hc
theorem Fr.frozen {S : Nat → Prop} {w w' : World} (h : Fr S w w') {p : Addr} (hp : p.block < w.heap.size) (hn : ¬ S p.block) : w'.frozen? p = w.frozen? p :=
  World.frozen?_of_block (h.block p.block hp hn)

/-! ### A block known whole. -/
def At (w : World) (g : Nat) (t : TypeId) (cs : Array Value) : Prop := w.heap[g]? = some (.cells cs t (0, 0))
theorem At.lt {w : World} {g : Nat} {t : TypeId} {cs : Array Value} (h : At w g t cs) : g < w.heap.size := by
  rcases Nat.lt_or_ge g w.heap.size with h' | h'
  · exact h'
  · unfold At at h; rw [Array.getElem?_eq_none h'] at h; cases h
theorem At.cell {w : World} {g : Nat} {t : TypeId} {cs : Array Value} (h : At w g t cs) (i : Nat) : w.cell? ⟨g, i, none⟩ = cs[i]? := cell_of_row w g i cs t (0, 0) h
theorem At.frozen {w : World} {g : Nat} {t : TypeId} {cs : Array Value} (h : At w g t cs) (i : Nat) : w.frozen? ⟨g, i, none⟩ = false := by
  unfold At at h
  simp [World.frozen?, h]
theorem At.new (w : World) (t : TypeId) (cs : Array Value) : At (w.alloc (.cells cs t)) w.heap.size t cs := heap_alloc_new w _
theorem At.keep {S : Nat → Prop} {w w' : World} {g : Nat} {t : TypeId} {cs : Array Value} (h : At w g t cs) (f : Fr S w w') (hn : ¬ S g) : At w' g t cs := (f.block g h.lt hn).trans h
theorem At.set_ {w : World} {g : Nat} {t : TypeId} {cs : Array Value} (h : At w g t cs) (i : Nat) (u : Value) : At (w.setCell ⟨g, i, none⟩ u) g t (cs.setIfInBounds i u) := by
  unfold At at h ⊢
  simp [World.setCell, Array.getElem?_modify, h]

/-! ### Bytes that are read, within a set of blocks. -/
abbrev byt (c : UInt8) : Value := .int .u8 (c.toNat : Int)
def In (w : World) (S : Nat → Prop) (a : Option Addr) (l : List UInt8) : Prop :=
  0 < l.length → ∃ b o, S b ∧ a = some ⟨b, o, none⟩ ∧ ∀ i, i < l.length → w.cell? ⟨b, o + i, none⟩ = some (.int .u8 ((l.getD i 0).toNat : Int))
theorem In.nil (w : World) (S : Nat → Prop) (a : Option Addr) : In w S a [] := fun h => absurd h (by simp)
theorem In.rd {w : World} {S : Nat → Prop} {a : Option Addr} {l : List UInt8} (h : In w S a l) : Rd w a l := fun hl => by
  obtain ⟨b, o, _, ha, hc⟩ := h hl
  exact ⟨b, o, ha, hc⟩
theorem In.sub {w : World} {S T : Nat → Prop} {a : Option Addr} {l : List UInt8} (h : In w S a l) (hs : ∀ k, k < w.heap.size → S k → T k) : In w T a l := fun hl => by
  obtain ⟨b, o, hb, ha, hc⟩ := h hl
  have h0 := hc 0 hl
  exact ⟨b, o, hs b (cell_block h0) hb, ha, hc⟩
theorem In.keep {w w' : World} {S T : Nat → Prop} {a : Option Addr} {l : List UInt8} (h : In w S a l) (f : Fr T w w') (hn : ∀ k, S k → ¬ T k) : In w' S a l := fun hl => by
  obtain ⟨b, o, hb, ha, hc⟩ := h hl
  exact ⟨b, o, hb, ha, fun i hi => f.cell (hc i hi) (hn b hb)⟩
theorem In.of_rd {w : World} {a : Option Addr} {l : List UInt8} (h : Rd w a l) : In w (Till w.heap.size) a l := fun hl => by
  obtain ⟨b, o, ha, hc⟩ := h hl
  have h0 := hc 0 hl
  exact ⟨b, o, cell_block h0, ha, hc⟩
theorem In.drop {w : World} {S : Nat → Prop} {a : Option Addr} {l : List UInt8} (h : In w S a l) (k cap : Nat) (hc : l.length ≤ cap) : In w S (cutAt a k cap) (l.drop k) := by
  intro hl
  have hl' : k < l.length := by simp at hl; omega
  obtain ⟨b, o, hb, rfl, hcell⟩ := h (by omega)
  refine ⟨b, o + k, hb, ?_, fun i hi => ?_⟩
  · unfold cutAt
    rw [if_neg (by omega)]
    unfold Addr.add
    by_cases h0 : k = 0 <;> simp [h0]
  · have hi' : k + i < l.length := by simp at hi; omega
    have h1 := hcell (k + i) hi'
    rw [Nat.add_assoc, h1]
    simp [List.getD, List.getElem?_drop]
theorem In.take {w : World} {S : Nat → Prop} {a : Option Addr} {l : List UInt8} (h : In w S a l) (k : Nat) : In w S a (l.take k) := by
  intro hl
  have hl' : 0 < l.length ∧ 0 < k := by simp at hl; omega
  obtain ⟨b, o, hb, ha, hc⟩ := h hl'.1
  refine ⟨b, o, hb, ha, fun i hi => ?_⟩
  have hi' : i < l.length ∧ i < k := by simp at hi; omega
  rw [hc i hi'.1]
  simp [List.getD, hi'.2]

/-! ### A row of bytes of the call's own. -/
def Row (w : World) (S : Nat → Prop) (v : Value) (l : List UInt8) : Prop := w.ownsRow 0 5 1 v l.length (l.map byt) ∧ ∀ k, v.ownBlock = some k → S k
theorem Row.nil (w : World) (S : Nat → Prop) : Row w S (.slice none 0 0) [] := ⟨World.ownsRow_nil w 0 _ 1, fun k h => by simp [Value.ownBlock] at h⟩
theorem Row.sub {w : World} {S T : Nat → Prop} {v : Value} {l : List UInt8} (h : Row w S v l) (hs : ∀ k, k < w.heap.size → S k → T k) : Row w T v l :=
  ⟨h.1, fun k hk => hs k (h.1.lt k hk).2 (h.2 k hk)⟩
theorem Row.keep {w w' : World} {S T : Nat → Prop} {v : Value} {l : List UInt8} (h : Row w S v l) (f : Fr T w w') (hn : ∀ k, S k → ¬ T k) : Row w' S v l := by
  obtain ⟨⟨h1, h2⟩, h3⟩ := h
  refine ⟨⟨h1, ?_⟩, h3⟩
  rcases h2 with h2 | ⟨g, cap, cur, rfl, hb, hg, rest⟩
  · exact .inl h2
  · exact .inr ⟨g, cap, cur, rfl, hb, (f.block g (Array.getElem?_eq_some_iff.1 hg).1 (hn g (h3 g rfl))).trans hg, rest⟩
/-- A row is a slice that is read. -/
theorem Row.form {w : World} {S : Nat → Prop} {v : Value} {l : List UInt8} (h : Row w S v l) : ∃ a cap, v = .slice a l.length cap ∧ l.length ≤ cap ∧ cap ≤ maxLen ∧ In w S a l := by
  obtain ⟨⟨h1, h2⟩, h3⟩ := h
  rcases h2 with ⟨rfl, h0⟩ | ⟨g, cap, cur, rfl, hb, hg, hn, hm, hc, ht⟩
  · have : l = [] := List.eq_nil_of_length_eq_zero h0
    subst this
    exact ⟨none, 0, rfl, Nat.le_refl _, by simp [maxLen], In.nil _ _ _⟩
  · refine ⟨some ⟨g, 0, none⟩, cap, rfl, hn, hm, fun hl => ⟨g, 0, h3 g rfl, rfl, fun i hi => ?_⟩⟩
    rw [Nat.zero_add, cell_of_row w g i cur _ (0, 0) hg]
    have e : cur.toList[i]? = (l.map byt)[i]? := by
      rw [← ht, List.getElem?_take, if_pos (by omega)]
    rw [← Array.getElem?_toList, e]
    simp [List.getD, hi]
theorem Row.block {w : World} {S : Nat → Prop} {v : Value} {l : List UInt8} (h : Row w S v l) {k : Nat} (hk : v.ownBlock = some k) : S k ∧ k < w.heap.size := ⟨h.2 k hk, (h.1.lt k hk).2⟩

theorem Row.shape {w : World} {S : Nat → Prop} {v : Value} {l : List UInt8} (h : Row w S v l) : ∃ a n cap, v = .slice a n cap := by
  obtain ⟨a, cap, h1, _⟩ := h.form
  exact ⟨a, _, cap, h1⟩
theorem infoU8 : (Tryd.prog.info? 5).map (fun i => (i.zero, i.size, i.bytes)) = some (some (.int .u8 0), 1, 1) := by kernel_rfl

/-- APPEND TO A ROW of the call's own: whatever is read, nil let in. -/
theorem Row.append {w : World} {S : Nat → Prop} {v : Value} {l : List UInt8} (h : Row w S v l) (a : Option Addr) (m c : Nat) (news : List UInt8) (hm : news.length = m) (hr : Rd w a news)
    (hb : l.length + m ≤ 140737488355328) : ∃ v' w', (Builtin.append_ #[23, 23] 23 #[v, .slice a m c]).run Tryd.prog w = .ok v' w' ∧ Row w' (Gr S w w') v' (l ++ news) ∧ Fr S w w' := by
  subst hm
  obtain ⟨i0, hi, hz0, hz1, hz2⟩ := info_parts infoU8
  by_cases h0 : news = []
  · subst h0
    refine ⟨v, w, ?_, ?_, Fr.refl _ _⟩
    · rcases h.1.2 with ⟨rfl, hn⟩ | ⟨g, cap, cur, rfl, _, _, hnc, _⟩
      · cases a with
        | none => simp [Builtin.append_, run_underlying Tryd.underlying23, sizeOf, typeInfo, hi, Builtin.lenOf, Builtin.firstCells]
        | some x => simp [Builtin.append_, run_underlying Tryd.underlying23, sizeOf, typeInfo, hi, Builtin.lenOf, Builtin.firstCells, loadCells, loadCellsFrom]
      · cases a with
        | none => simp [Builtin.append_, run_underlying Tryd.underlying23, sizeOf, typeInfo, hi, Builtin.lenOf, Builtin.firstCells, hnc, storeCells]
        | some x => simp [Builtin.append_, run_underlying Tryd.underlying23, sizeOf, typeInfo, hi, Builtin.lenOf, Builtin.firstCells, loadCells, loadCellsFrom, hnc, storeCells]
    · rw [List.append_nil]
      exact h.sub fun k _ hk => .inl hk
  · obtain ⟨b, o, rfl, hc⟩ := hr (List.length_pos_iff.mpr h0)
    have hnews : ∀ j u, (news.map byt)[j]? = some u → w.cell? ((⟨b, o, none⟩ : Addr).add j) = some u := by
      intro j u hu
      have hj : j < news.length := by
        rcases Nat.lt_or_ge j news.length with h' | h'
        · exact h'
        · rw [List.getElem?_eq_none (by simpa using h')] at hu; cases hu
      have e : (⟨b, o, none⟩ : Addr).add j = ⟨b, o + j, none⟩ := by unfold Addr.add; split <;> simp_all
      rw [e, hc j hj]
      simp [hj] at hu
      simp [List.getD, hj, hu]
    obtain ⟨v', w', hrun, h2, h3, _, h5⟩ := run_append_own_at (P := Tryd.prog) w 0 23 23 5 i0 (.int .u8 0) 1 1 Tryd.underlying23 hi hz0 hz1 hz2 rfl (by decide) v l.length (l.map byt) h.1
      ⟨b, o, none⟩ news.length c (news.map byt) (by simp) hnews (by intro u hu; obtain ⟨x, _, rfl⟩ := List.mem_map.1 hu; rfl) (by unfold maxLen; omega) (by omega) (Nat.zero_le _)
    refine ⟨v', w', hrun, ⟨by rw [List.length_append, List.map_append]; exact h2, fun k hk => ?_⟩, Fr.grown h3 h.2⟩
    rcases h5 with h5 | h5
    · exact .inl (h.2 k (h5 ▸ hk))
    · rw [h5] at hk
      have hk : w.heap.size = k := Option.some.inj hk
      have h6 := (h2.lt k (by rw [h5, hk])).2
      exact .inr ⟨by omega, h6⟩
/-- What is new behind two steps is new. -/
theorem Gr.join {S : Nat → Prop} {a b c : World} (h1 : a.heap.size ≤ b.heap.size) (h2 : b.heap.size ≤ c.heap.size) (k : Nat) (h : Gr (Gr S a b) b c k) : Gr S a c k := by
  rcases h with (h | h) | h
  · exact .inl h
  · exact .inr ⟨h.1, by omega⟩
  · exact .inr ⟨by omega, h.2⟩
theorem Gr.old {S : Nat → Prop} {a b : World} {k : Nat} (hk : k < a.heap.size) (h : Gr S a b k) : S k := by
  rcases h with h | h
  · exact h
  · omega
theorem Row.join {S : Nat → Prop} {a b c : World} {v : Value} {l : List UInt8} (h : Row c (Gr (Gr S a b) b c) v l) (h1 : a.heap.size ≤ b.heap.size) (h2 : b.heap.size ≤ c.heap.size) : Row c (Gr S a c) v l :=
  h.sub fun k _ hk => Gr.join h1 h2 k hk
theorem In.join {S : Nat → Prop} {a b c : World} {v : Option Addr} {l : List UInt8} (h : In c (Gr (Gr S a b) b c) v l) (h1 : a.heap.size ≤ b.heap.size) (h2 : b.heap.size ≤ c.heap.size) : In c (Gr S a c) v l :=
  h.sub fun k _ hk => Gr.join h1 h2 k hk
theorem Rd.one (w : World) (t : TypeId) (c : UInt8) : Rd (w.alloc (.cells #[.int .u8 (c.toNat : Int)] t)) (some ⟨w.heap.size, 0, none⟩) [c] := fun _ => by
  refine ⟨_, _, rfl, fun i hi => ?_⟩
  have h : i = 0 := by simpa using hi
  subst h
  exact At.cell (At.new w t #[.int .u8 (c.toNat : Int)]) 0
/-- APPEND OF ONE BYTE, which lies in a new block of its own. -/
theorem Row.push {w : World} {S : Nat → Prop} {v : Value} {l : List UInt8} (h : Row w S v l) (hS : ∀ k, S k → k < w.heap.size) (c : UInt8) (hb : l.length < 140737488355328) :
    ∃ v' w', (Builtin.append_ #[23, 23] 23 #[v, .slice (some ⟨w.heap.size, 0, none⟩) 1 1]).run Tryd.prog (w.alloc (.cells #[.int .u8 (c.toNat : Int)] 5)) = .ok v' w' ∧ Row w' (Gr S w w') v' (l ++ [c]) ∧ Fr S w w' := by
  have f := (Fr.refl No w).alloc (.cells #[.int .u8 (c.toNat : Int)] 5)
  obtain ⟨v', w', h1, h2, h3⟩ := (h.keep f fun _ _ h => h).append (some ⟨w.heap.size, 0, none⟩) 1 1 [c] rfl (Rd.one w _ c) (by omega)
  refine ⟨v', w', h1, h2.sub fun k _ hk => ?_, (f.sub fun _ _ h => h.elim).then_ h3 fun _ _ h => h⟩
  rcases hk with hk | hk
  · exact .inl hk
  · exact .inr ⟨by have := f.size; omega, hk.2⟩
/-- A STORE INTO A ROW. -/
theorem Row.at_ {w : World} {S : Nat → Prop} {v : Value} {l : List UInt8} (h : Row w S v l) {i : Nat} (hi : i < l.length) :
    ∃ g cap, v = .slice (some ⟨g, 0, none⟩) l.length cap ∧ S g ∧ l.length ≤ cap ∧ cap ≤ maxLen ∧ w.cell? ⟨g, i, none⟩ = some (.int .u8 ((l.getD i 0).toNat : Int)) ∧ w.frozen? ⟨g, i, none⟩ = false ∧
      ∀ c : UInt8, Row (w.setCell ⟨g, i, none⟩ (.int .u8 (c.toNat : Int))) S v (l.set i c) ∧ Fr S w (w.setCell ⟨g, i, none⟩ (.int .u8 (c.toNat : Int))) := by
  obtain ⟨⟨h1, h2⟩, h3⟩ := h
  rcases h2 with ⟨rfl, h0⟩ | ⟨g, cap, cur, rfl, hb, hg, hn, hm, hc, ht⟩
  · omega
  · have e : cur.toList[i]? = (l.map byt)[i]? := by
      rw [← ht, List.getElem?_take, if_pos (by omega)]
    refine ⟨g, cap, rfl, h3 g rfl, hn, hm, ?_, ?_, fun c => ⟨⟨⟨by simp, .inr ⟨g, cap, cur.setIfInBounds i (.int .u8 (c.toNat : Int)), by rw [List.length_set], Nat.zero_le _, ?_, by rw [List.length_set]; exact hn, hm, by simpa using hc, ?_⟩⟩, h3⟩, (Fr.refl S w).setCell (fun _ => h3 g rfl) _⟩⟩
    · rw [cell_of_row w g i cur _ (0, 0) hg, ← Array.getElem?_toList, e]
      simp [List.getD, hi]
    · simp [World.frozen?, hg]
    · simp [World.setCell, Array.getElem?_modify, hg]
    · rw [List.length_set, Nat.mul_one, Array.toList_setIfInBounds, List.map_set, List.take_set]
      rw [Nat.mul_one] at ht
      rw [ht]
end Go.Proofs.YtbglicndccdaiaaDoor
