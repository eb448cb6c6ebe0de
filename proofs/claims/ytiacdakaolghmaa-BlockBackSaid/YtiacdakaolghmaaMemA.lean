/-
  Words for memory: what has turned but within a set of blocks ('Fr'); bytes that are read and lie within a set of blocks ('In'); a block known whole ('At'). No type of a program is named.
-/
import Derived.Test.YtiacdakaolghmaaFrame
import Derived.Laws.OwnMore
import Derived.Maps.AppendAt
import Derived.Deep.Draws
namespace Go.Proofs.Ytiacdakaolghmaa
set_option linter.unusedVariables false
open Go.RowKit

/-- Blocks that were there and are not of S are as they were. -/
structure Fr (S : Nat → Prop) (w w' : World) : Prop where
  os : w'.os = w.os
  tape : w'.tape = w.tape
  output : w'.output = w.output
  size : w.heap.size ≤ w'.heap.size
  block : ∀ k, k < w.heap.size → ¬ S k → w'.heap[k]? = w.heap[k]?

/-- S, and what is new. -/
def Gr (S : Nat → Prop) (w w' : World) : Nat → Prop := fun k => S k ∨ (w.heap.size ≤ k ∧ k < w'.heap.size)
def No : Nat → Prop := fun _ => False
def One (b : Nat) : Nat → Prop := fun k => k = b
def Two (S T : Nat → Prop) : Nat → Prop := fun k => S k ∨ T k
/-- From block B on. -/
def From (b : Nat) : Nat → Prop := fun k => b ≤ k
def Till (b : Nat) : Nat → Prop := fun k => k < b

theorem Fr.refl (S : Nat → Prop) (w : World) : Fr S w w := ⟨rfl, rfl, rfl, Nat.le_refl _, fun _ _ _ => rfl⟩
theorem Fr.sub {S T : Nat → Prop} {w w' : World} (h : Fr S w w') (hs : ∀ k, k < w.heap.size → S k → T k) : Fr T w w' :=
  ⟨h.os, h.tape, h.output, h.size, fun k hk hn => h.block k hk fun hS => hn (hs k hk hS)⟩
/-- Behind a step that may turn T: T within S, or new. -/
theorem Fr.then_ {S T : Nat → Prop} {a b c : World} (h : Fr S a b) (k : Fr T b c) (ht : ∀ x, x < a.heap.size → T x → S x) : Fr S a c :=
  ⟨k.os.trans h.os, k.tape.trans h.tape, k.output.trans h.output, Nat.le_trans h.size k.size, fun x hx hn => (k.block x (Nat.lt_of_lt_of_le hx h.size) fun hT => hn (ht x hx hT)).trans (h.block x hx hn)⟩
theorem Fr.trans {S : Nat → Prop} {a b c : World} (h : Fr S a b) (k : Fr S b c) : Fr S a c := h.then_ k fun _ _ h => h
theorem Fr.drew {S : Nat → Prop} {a w : World} (h : Fr S a w) : Fr S a w.drew := ⟨h.os, h.tape, h.output, h.size, h.block⟩
theorem Fr.drewN {S : Nat → Prop} {a w : World} (h : Fr S a w) (n : Nat) : Fr S a (w.drewN n) := ⟨h.os, h.tape, h.output, h.size, h.block⟩
theorem Fr.alloc {S : Nat → Prop} {a w : World} (h : Fr S a w) (o : Obj) : Fr S a (w.alloc o) :=
  ⟨h.os, h.tape, h.output, Nat.le_trans h.size (by simp), fun k hk hn => (Below.heap_alloc w o k (Nat.lt_of_lt_of_le hk h.size)).trans (h.block k hk hn)⟩
theorem Fr.setCell {S : Nat → Prop} {a w : World} (h : Fr S a w) {p : Addr} (hp : p.block < a.heap.size → S p.block) (u : Value) : Fr S a (w.setCell p u) :=
  ⟨h.os, h.tape, h.output, by simpa [World.setCell] using h.size, fun k hk hn => (Below.heap_setCell w p u k (by rintro rfl; exact hn (hp hk))).trans (h.block k hk hn)⟩
theorem Fr.grown {S : Nat → Prop} {w w' : World} {row : Option Nat} (hg : w.grownBy w' row) (hr : ∀ k, row = some k → S k) : Fr S w w' :=
  ⟨hg.os, hg.tape, hg.output, hg.size, fun k hk hn => hg.block k hk fun e => hn (hr k e.symm)⟩
theorem Fr.below {S : Nat → Prop} {w w' : World} {B : Nat} (h : Fr S w w') (hB : B ≤ w.heap.size) (hS : ∀ k, S k → B ≤ k) : Below B w w' :=
  ⟨h.os, h.tape, h.output, h.size, fun k hk => h.block k (Nat.lt_of_lt_of_le hk hB) fun hs => absurd (hS k hs) (by omega)⟩
theorem Fr.of_below {w w' : World} {B : Nat} (h : Below B w w') : Fr (From B) w w' :=
  ⟨h.os, h.tape, h.output, h.size, fun k hk hn => h.block k (by unfold From at hn; omega)⟩
theorem Fr.cell {S : Nat → Prop} {w w' : World} (h : Fr S w w') {p : Addr} {v : Value} (hc : w.cell? p = some v) (hn : ¬ S p.block) : w'.cell? p = some v :=
  (World.cell?_of_block (h.block p.block (cell_block hc) hn)).trans hc
theorem Fr.frozen {S : Nat → Prop} {w w' : World} (h : Fr S w w') {p : Addr} (hp : p.block < w.heap.size) (hn : ¬ S p.block) : w'.frozen? p = w.frozen? p :=
  World.frozen?_of_block (h.block p.block hp hn)

/-! ### A block known whole. -/
def At (w : World) (g : Nat) (t : TypeId) (cs : Array Value) : Prop := w.heap[g]? = some (.cells cs t (0, 0))
theorem At.lt {w : World} {g : Nat} {t : TypeId} {cs : Array Value} (h : At w g t cs) : g < w.heap.size := by
  rcases Nat.lt_or_ge g w.heap.size with h' | h'
  · exact h'
  · unfold At at h; rw [Array.getElem?_eq_none h'] at h; cases h
theorem At.cell {w : World} {g : Nat} {t : TypeId} {cs : Array Value} (h : At w g t cs) (i : Nat) : w.cell? ⟨g, i, none⟩ = cs[i]? := cell_of_row w g i cs t (0, 0) h
theorem At.frozen {w : World} {g : Nat} {t : TypeId} {cs : Array Value} (h : At w g t cs) (i : Nat) : w.frozen? ⟨g, i, none⟩ = false := by
  unfold At at h
  simp [World.frozen?, h]
theorem At.new (w : World) (t : TypeId) (cs : Array Value) : At (w.alloc (.cells cs t)) w.heap.size t cs := heap_alloc_new w _
theorem At.keep {S : Nat → Prop} {w w' : World} {g : Nat} {t : TypeId} {cs : Array Value} (h : At w g t cs) (f : Fr S w w') (hn : ¬ S g) : At w' g t cs := (f.block g h.lt hn).trans h
theorem At.set_ {w : World} {g : Nat} {t : TypeId} {cs : Array Value} (h : At w g t cs) (i : Nat) (u : Value) : At (w.setCell ⟨g, i, none⟩ u) g t (cs.setIfInBounds i u) := by
  unfold At at h ⊢
  simp [World.setCell, Array.getElem?_modify, h]

/-! ### Bytes that are read, within a set of blocks. -/
abbrev byt (c : UInt8) : Value := .int .u8 (c.toNat : Int)
def In (w : World) (S : Nat → Prop) (a : Option Addr) (l : List UInt8) : Prop :=
  0 < l.length → ∃ b o, S b ∧ a = some ⟨b, o, none⟩ ∧ ∀ i, i < l.length → w.cell? ⟨b, o + i, none⟩ = some (.int .u8 ((l.getD i 0).toNat : Int))
theorem In.nil (w : World) (S : Nat → Prop) (a : Option Addr) : In w S a [] := fun h => absurd h (by simp)
theorem In.rd {w : World} {S : Nat → Prop} {a : Option Addr} {l : List UInt8} (h : In w S a l) : Rd w a l := fun hl => by
  obtain ⟨b, o, _, ha, hc⟩ := h hl
  exact ⟨b, o, ha, hc⟩
theorem In.sub {w : World} {S T : Nat → Prop} {a : Option Addr} {l : List UInt8} (h : In w S a l) (hs : ∀ k, k < w.heap.size → S k → T k) : In w T a l := fun hl => by
  obtain ⟨b, o, hb, ha, hc⟩ := h hl
  have h0 := hc 0 hl
  exact ⟨b, o, hs b (cell_block h0) hb, ha, hc⟩
theorem In.keep {w w' : World} {S T : Nat → Prop} {a : Option Addr} {l : List UInt8} (h : In w S a l) (f : Fr T w w') (hn : ∀ k, S k → ¬ T k) : In w' S a l := fun hl => by
  obtain ⟨b, o, hb, ha, hc⟩ := h hl
  exact ⟨b, o, hb, ha, fun i hi => f.cell (hc i hi) (hn b hb)⟩
theorem In.of_rd {w : World} {a : Option Addr} {l : List UInt8} (h : Rd w a l) : In w (Till w.heap.size) a l := fun hl => by
  obtain ⟨b, o, ha, hc⟩ := h hl
  have h0 := hc 0 hl
  exact ⟨b, o, cell_block h0, ha, hc⟩
theorem In.drop {w : World} {S : Nat → Prop} {a : Option Addr} {l : List UInt8} (h : In w S a l) (k cap : Nat) (hc : l.length ≤ cap) : In w S (cutAt a k cap) (l.drop k) := by
  intro hl
  have hl' : k < l.length := by simp at hl; omega
  obtain ⟨b, o, hb, rfl, hcell⟩ := h (by omega)
  refine ⟨b, o + k, hb, ?_, fun i hi => ?_⟩
  · unfold cutAt
    rw [if_neg (by omega)]
    unfold Addr.add
    by_cases h0 : k = 0 <;> simp [h0]
  · have hi' : k + i < l.length := by simp at hi; omega
    have h1 := hcell (k + i) hi'
    rw [Nat.add_assoc, h1]
    simp [List.getD, List.getElem?_drop]
theorem In.take {w : World} {S : Nat → Prop} {a : Option Addr} {l : List UInt8} (h : In w S a l) (k : Nat) : In w S a (l.take k) := by
  intro hl
  have hl' : 0 < l.length ∧ 0 < k := by simp at hl; omega
  obtain ⟨b, o, hb, ha, hc⟩ := h hl'.1
  refine ⟨b, o, hb, ha, fun i hi => ?_⟩
  have hi' : i < l.length ∧ i < k := by simp at hi; omega
  rw [hc i hi'.1]
  simp [List.getD, hi'.2]
end Go.Proofs.Ytiacdakaolghmaa
