/-
  Texts of layer 14 and of what it stands on, one behind the other.
-/
import Derived.Test.YtihahckjcedceaaDoorRows
import Derived.WalkKit
import Derived.ProofKit
import Derived.OpenShut
import Derived.ShutString
import Derived.ChangeOld
import Derived.Below
import Derived.Laws.OwnMore
import Derived.Maps.AppendAt
import Derived.Deep.Draws

/- The frame of a law's proof, over any program: what a slice of bytes that comes in is; that arguments read behind a call as ahead of it when nothing that was there has turned; a law's condition out of its walk. -/
namespace Go.Proofs.YtihahckjcedceaaDoor
set_option linter.unusedVariables false
open Go.ChangeShapes Go.WideShapes Go.ChangeAt Go.RowKit

theorem cell_block {w : World} {p : Addr} {v : Value} (h : w.cell? p = some v) : p.block < w.heap.size := by
  rcases Nat.lt_or_ge p.block w.heap.size with h' | h'
  · exact h'
  · exfalso
    have : w.heap[p.block]? = none := Array.getElem?_eq_none h'
    simp [World.cell?, this] at h

/-- The bytes of a slice that is read: where there is one, it lies in memory. -/
def Rd (w : World) (a : Option Addr) (l : List UInt8) : Prop :=
  0 < l.length → ∃ b o, a = some ⟨b, o, none⟩ ∧ ∀ i, i < l.length → w.cell? ⟨b, o + i, none⟩ = some (.int .u8 ((l.getD i 0).toNat : Int))

theorem Rd.nil (w : World) (a : Option Addr) : Rd w a [] := fun h => absurd h (by simp)
theorem Rd.below {w w' : World} {a : Option Addr} {l : List UInt8} {B : Nat} (h : Rd w a l) (hb : Below B w w') (hB : w.heap.size ≤ B) : Rd w' a l := by
  intro hl
  obtain ⟨b, o, ha, hc⟩ := h hl
  refine ⟨b, o, ha, fun i hi => ?_⟩
  have h1 := hc i hi
  have h2 := cell_block h1
  exact (hb.cell (p := ⟨b, o + i, none⟩) (Nat.lt_of_lt_of_le h2 hB)).trans h1

def byteOf (n : Int) : UInt8 := UInt8.ofNat n.toNat
theorem byteOf_nat {n : Int} (h : (Lit.int .u8 n).wf = true) : ((byteOf n).toNat : Int) = n := by
  simp [Lit.wf, IntKind.min, IntKind.max, IntKind.signed, IntKind.bits] at h
  unfold byteOf
  rw [UInt8.toNat_ofNat']
  omega

section
variable {H : Type} {enc : TypeId × Value → H} {P : Program} {w : World} {base : Nat} {held : Bool}

/-- The address of 's[k:]'. -/
def cutAt (a : Option Addr) (k cap : Nat) : Option Addr := if cap = k then a else a.map (·.add k)
theorem cutAt_zero (a : Option Addr) (cap : Nat) : cutAt a 0 cap = a := by
  unfold cutAt
  split
  · rfl
  · cases a <;> simp [Addr.add]
theorem size_one {e : TypeId} (hc : P.cellsOf e = 1) (hi : ∃ i, P.info? e = some i ∧ i.size = 1) (w : World) : (sizeOf e).run P w = .ok 1 w := by
  obtain ⟨i, h1, h2⟩ := hi
  simp [sizeOf, typeInfo, h1, h2, Result.andThen]
section
variable {t e : TypeId} (ht : P.underlying t = some (.slice e)) (hz : ∀ w, (sizeOf e).run P w = .ok 1 w)
include ht hz
theorem cut_both (a : Option Addr) (len cap lo hi : Nat) (h1 : lo ≤ hi) (h2 : hi ≤ cap) (w : World) :
    (Instr.slice t (.slice a len cap) (some (.int .i64 (lo : Int))) (some (.int .i64 (hi : Int))) none).run P w = .ok (.slice (cutAt a lo cap) (hi - lo) (cap - lo)) w := by
  have he : P.elem t = e := by simp [Program.elem, ht]
  have ht' : P.underlying t = some (.slice (P.elem t)) := by rw [he]; exact ht
  rw [run_slice_lh w t a len cap ht' .i64 .i64 lo hi (by omega) (by omega) (by omega), he, hz]
  simp [Result.andThen, sliced, cutAt]
theorem cut_hi (a : Option Addr) (len cap hi : Nat) (h2 : hi ≤ cap) (w : World) :
    (Instr.slice t (.slice a len cap) none (some (.int .i64 (hi : Int))) none).run P w = .ok (.slice a hi cap) w := by
  have he : P.elem t = e := by simp [Program.elem, ht]
  have ht' : P.underlying t = some (.slice (P.elem t)) := by rw [he]; exact ht
  rw [run_slice_h w t a len cap ht' .i64 hi (by omega) (by omega), he, hz]
  have := cutAt_zero a cap
  simp [Result.andThen, sliced]
  simpa [cutAt] using this
theorem cut_lo (a : Option Addr) (len cap lo : Nat) (h1 : lo ≤ len) (w : World) :
    (Instr.slice t (.slice a len cap) (some (.int .i64 (lo : Int))) none none).run P w = .ok (.slice (cutAt a lo cap) (len - lo) (cap - lo)) w := by
  have he : P.elem t = e := by simp [Program.elem, ht]
  have ht' : P.underlying t = some (.slice (P.elem t)) := by rw [he]; exact ht
  rw [run_slice_l w t a len cap ht' .i64 lo (by omega) (by omega), he, hz]
  simp [Result.andThen, sliced, cutAt]
end
omit H enc base held in
theorem Rd.take {a : Option Addr} {l : List UInt8} (h : Rd w a l) (k : Nat) : Rd w a (l.take k) := by
  intro hl
  have hl' : 0 < l.length ∧ 0 < k := by simp at hl; omega
  obtain ⟨b, o, ha, hc⟩ := h hl'.1
  refine ⟨b, o, ha, fun i hi => ?_⟩
  have hi' : i < l.length ∧ i < k := by simp at hi; omega
  rw [hc i hi'.1]
  simp [List.getD, hi'.2]
theorem Rd.drop {a : Option Addr} {l : List UInt8} (h : Rd w a l) (k cap : Nat) (hc : l.length ≤ cap) : Rd w (cutAt a k cap) (l.drop k) := by
  intro hl
  have hl' : k < l.length := by simp at hl; omega
  obtain ⟨b, o, rfl, hcell⟩ := h (by omega)
  refine ⟨b, o + k, ?_, fun i hi => ?_⟩
  · unfold cutAt
    rw [if_neg (by omega)]
    unfold Addr.add
    by_cases h0 : k = 0 <;> simp [h0]
  · have hi' : k + i < l.length := by simp at hi; omega
    have h1 := hcell (k + i) hi'
    rw [Nat.add_assoc, h1]
    simp [List.getD, List.getElem?_drop]
/-- An append whose run is known. -/
theorem wpList_append_run {ops : Array Oper} {rest : List Oper} {o : Oper} {a : Act} {Q : Exit → Act → World → Prop} (hgd : o.guard = none) (s x : Operand) (t : TypeId)
    (ho : o.op = .call { callee := .builtin .append, args := #[s, x], argTypes := #[t, t] }) {v u v' : Value} {w' : World} (hs : a.eval s = v) (hx : a.eval x = u)
    (hr : (Builtin.append_ #[t, t] o.type #[v, u]).run P w = .ok v' w') (h : wpList P ops Q rest (a.put o.dst v') w') : wpList P ops Q (o :: rest) a w := by
  refine wpList_plain hgd fun K hK => ?_
  unfold Oper.wp
  simp only [execOp, ho, resolve, invoke, builtin, Sem.run_bind, Sem.run_pure, Result.andThen_ok, List.map_toArray, List.map_cons, List.map_nil, hs, hx, hr]
  exact hK _ _ h
/-- A SLICE OF BYTES THAT CAME IN. -/
theorem open_bytes {t e : TypeId} {v : Value} {d : DataW H} {p : List MemPlace} {bb : Nat} (ht : P.underlying t = some (.slice e)) (he : P.underlying e = some (.int .u8)) (hc : P.cellsOf e = 1)
    (hv : Value.okWide P w .any bb t v) (h : DataW.Trod enc P w base (fun _ => true) held t v d p) :
    ∃ a len cap l, v = .slice a len cap ∧ l.length = len ∧ len ≤ cap ∧ cap ≤ maxLen ∧ Rd w a l := by
  obtain ⟨a0, len0, cap0, rfl⟩ := okWide_slice ht hv
  obtain ⟨fuel, hf⟩ := h
  rcases open_ints ht he hc hf with ⟨hcs, _⟩ | ⟨x, l, c, zs, hcs, _, hl, hm, hz, _, hcell, hwz⟩
  · simp [Value.cells] at hcs
    obtain ⟨rfl, rfl, rfl⟩ := hcs
    exact ⟨none, 0, 0, [], rfl, rfl, Nat.le_refl _, by simp [maxLen], Rd.nil _ _⟩
  · simp [Value.cells] at hcs
    obtain ⟨rfl, rfl, rfl⟩ := hcs
    have hz : zs.length = cap0 := by simpa using hz
    refine ⟨some x, len0, cap0, (zs.take len0).map byteOf, rfl, by simp; omega, hl, hm, ?_⟩
    intro hlen
    have hlen : 0 < len0 := by simp at hlen; omega
    obtain ⟨b, off, spot⟩ := x
    have hc0 := hcell 0 (by omega)
    have hspot : spot = none := by simpa [Addr.add] using World.cell?_spot hc0
    subst hspot
    refine ⟨b, off, rfl, fun i hi => ?_⟩
    have hi : i < len0 := by simp at hi; omega
    have h1 := hcell i (by omega)
    have e1 : (⟨b, off, none⟩ : Addr).add i = ⟨b, off + i, none⟩ := by unfold Addr.add; split <;> simp_all
    rw [e1] at h1
    rw [h1]
    have hg : ((zs.take len0).map byteOf).getD i 0 = byteOf (zs.getD i 0) := by
      simp [List.getD, hi, show i < zs.length by omega]
    rw [hg, byteOf_nat (hwz _ (by simp [List.getD, show i < zs.length by omega]))]

/-- WHAT CAME IN READS AS IT DID. -/
theorem all_below {W W' : World} {ts : List TypeId} {vs : List Value} {ds : List (DataW H)} {p : List MemPlace} (hl : laidOutB P = true) (hts : ∀ t ∈ ts, P.readableRec t = true ∧ t < P.types.size)
    (h : DataW.TrodAll enc P W 0 (fun _ => true) true ts vs ds p) (hb : Below W.heap.size W W') : ∃ q, DataW.TrodAll enc P W' 0 (fun b => decide (b < W.heap.size)) true ts vs ds q := by
  induction ts generalizing vs ds p with
  | nil =>
    cases vs <;> cases ds <;> simp [DataW.TrodAll] at h
    exact ⟨[], rfl⟩
  | cons t ts ih =>
    obtain ⟨v0, vs0, d0, ds0, p0, q0, rfl, rfl, rfl, h0, r0⟩ := trodAll_cons h
    obtain ⟨q, hq⟩ := ih (fun t ht => hts t (List.mem_cons_of_mem _ ht)) r0
    have ht := hts t (List.mem_cons_self ..)
    have lt0 : ∀ x ∈ p0, x.block < W.heap.size := by
      obtain ⟨m, hm⟩ := h0
      exact DataW.trod_lt m _ _ _ hm
    exact ⟨p0 ++ q, trodAll_cons_mk (Below.trod hl ht.1 ht.2 h0 hb lt0) hq⟩

/-- A LAW's CONDITION: it has returned true, and nothing that was there has turned. -/
theorem law_post {f : Func} {s : ChangeSpec} {W W' : World} {args : Array Value} {ds gs : List (DataW H)} {before : List MemPlace} {tb : TypeId} (hl : laidOutB P = true)
    (hts : ∀ t ∈ f.params.toList, P.readableRec t = true ∧ t < P.types.size) (hres : f.resultTypes = #[tb]) (hbool : P.underlying tb = some .bool) (hvars : s.vars = [])
    (hs : ∀ gs', gs' = gs → s.fn H (ds ++ gs') = { results := [.lit (.bool true)], args := ds })
    (hW : DataW.Whole enc P f.params.toList s.vars false W args.toList ds gs before) (hb : Below W.heap.size W W') :
    s.post enc P f false true false false W args (.bool true) W' := by
  obtain ⟨p, q, hA, hV, hpq, hfz, hnd⟩ := hW
  have hW0 : DataW.Whole enc P f.params.toList s.vars false W args.toList ds gs before := ⟨p, q, hA, hV, hpq, hfz, hnd⟩
  obtain ⟨pa, hpa⟩ := all_below hl hts hA hb
  have e := hs gs rfl
  refine ⟨ds, gs, before, [], pa, [], hW0, ?_, ?_, ?_, hb.frame _, fun h => by cases h⟩
  · rw [e, hres]
    exact trodAll_mk1 (shut_bool hbool _)
  · rw [e]
    exact hpa
  · rw [e, hvars]
    rfl
end
end Go.Proofs.YtihahckjcedceaaDoor

/- Words for memory: what has turned but within a set of blocks ('Fr'); bytes that are read and lie within a set of blocks ('In'); a block known whole ('At'). No type of a program is named. -/
namespace Go.Proofs.YtihahckjcedceaaDoor
set_option linter.unusedVariables false
open Go.RowKit

/-- Blocks that were there and are not of S are as they were. -/
structure Fr (S : Nat → Prop) (w w' : World) : Prop where
  os : w'.os = w.os
  tape : w'.tape = w.tape
  output : w'.output = w.output
  size : w.heap.size ≤ w'.heap.size
  block : ∀ k, k < w.heap.size → ¬ S k → w'.heap[k]? = w.heap[k]?

/-- S, and what is new. -/
def Gr (S : Nat → Prop) (w w' : World) : Nat → Prop := fun k => S k ∨ (w.heap.size ≤ k ∧ k < w'.heap.size)
def No : Nat → Prop := fun _ => False
def One (b : Nat) : Nat → Prop := fun k => k = b
def Two (S T : Nat → Prop) : Nat → Prop := fun k => S k ∨ T k
/-- From block B on. -/
def From (b : Nat) : Nat → Prop := fun k => b ≤ k
def Till (b : Nat) : Nat → Prop := fun k => k < b

theorem Fr.refl (S : Nat → Prop) (w : World) : Fr S w w := ⟨rfl, rfl, rfl, Nat.le_refl _, fun _ _ _ => rfl⟩
theorem Fr.sub {S T : Nat → Prop} {w w' : World} (h : Fr S w w') (hs : ∀ k, k < w.heap.size → S k → T k) : Fr T w w' :=
  ⟨h.os, h.tape, h.output, h.size, fun k hk hn => h.block k hk fun hS => hn (hs k hk hS)⟩
/-- Behind a step that may turn T: T within S, or new. -/
theorem Fr.then_ {S T : Nat → Prop} {a b c : World} (h : Fr S a b) (k : Fr T b c) (ht : ∀ x, x < a.heap.size → T x → S x) : Fr S a c :=
  ⟨k.os.trans h.os, k.tape.trans h.tape, k.output.trans h.output, Nat.le_trans h.size k.size, fun x hx hn => (k.block x (Nat.lt_of_lt_of_le hx h.size) fun hT => hn (ht x hx hT)).trans (h.block x hx hn)⟩
theorem Fr.trans {S : Nat → Prop} {a b c : World} (h : Fr S a b) (k : Fr S b c) : Fr S a c := h.then_ k fun _ _ h => h
theorem Fr.drew {S : Nat → Prop} {a w : World} (h : Fr S a w) : Fr S a w.drew := ⟨h.os, h.tape, h.output, h.size, h.block⟩
theorem Fr.drewN {S : Nat → Prop} {a w : World} (h : Fr S a w) (n : Nat) : Fr S a (w.drewN n) := ⟨h.os, h.tape, h.output, h.size, h.block⟩
theorem Fr.alloc {S : Nat → Prop} {a w : World} (h : Fr S a w) (o : Obj) : Fr S a (w.alloc o) :=
  ⟨h.os, h.tape, h.output, Nat.le_trans h.size (by simp), fun k hk hn => (Below.heap_alloc w o k (Nat.lt_of_lt_of_le hk h.size)).trans (h.block k hk hn)⟩
theorem Fr.setCell {S : Nat → Prop} {a w : World} (h : Fr S a w) {p : Addr} (hp : p.block < a.heap.size → S p.block) (u : Value) : Fr S a (w.setCell p u) :=
  ⟨h.os, h.tape, h.output, by simpa [World.setCell] using h.size, fun k hk hn => (Below.heap_setCell w p u k (by rintro rfl; exact hn (hp hk))).trans (h.block k hk hn)⟩
theorem Fr.grown {S : Nat → Prop} {w w' : World} {row : Option Nat} (hg : w.grownBy w' row) (hr : ∀ k, row = some k → S k) : Fr S w w' :=
  ⟨hg.os, hg.tape, hg.output, hg.size, fun k hk hn => hg.block k hk fun e => hn (hr k e.symm)⟩
theorem Fr.below {S : Nat → Prop} {w w' : World} {B : Nat} (h : Fr S w w') (hB : B ≤ w.heap.size) (hS : ∀ k, S k → B ≤ k) : Below B w w' :=
  ⟨h.os, h.tape, h.output, h.size, fun k hk => h.block k (Nat.lt_of_lt_of_le hk hB) fun hs => absurd (hS k hs) (by omega)⟩
theorem Fr.of_below {w w' : World} {B : Nat} (h : Below B w w') : Fr (From B) w w' :=
  ⟨h.os, h.tape, h.output, h.size, fun k hk hn => h.block k (by unfold From at hn; omega)⟩
theorem Fr.cell {S : Nat → Prop} {w w' : World} (h : Fr S w w') {p : Addr} {v : Value} (hc : w.cell? p = some v) (hn : ¬ S p.block) : w'.cell? p = some v :=
  (World.cell?_of_block (h.block p.block (cell_block hc) hn)).trans hc
theorem Fr.frozen {S : Nat → Prop} {w w' : World} (h : Fr S w w') {p : Addr} (hp : p.block < w.heap.size) (hn : ¬ S p.block) : w'.frozen? p = w.frozen? p :=
  World.frozen?_of_block (h.block p.block hp hn)

/-! ### A block known whole. -/
def At (w : World) (g : Nat) (t : TypeId) (cs : Array Value) : Prop := w.heap[g]? = some (.cells cs t (0, 0))
theorem At.lt {w : World} {g : Nat} {t : TypeId} {cs : Array Value} (h : At w g t cs) : g < w.heap.size := by
  rcases Nat.lt_or_ge g w.heap.size with h' | h'
  · exact h'
  · unfold At at h; rw [Array.getElem?_eq_none h'] at h; cases h
theorem At.cell {w : World} {g : Nat} {t : TypeId} {cs : Array Value} (h : At w g t cs) (i : Nat) : w.cell? ⟨g, i, none⟩ = cs[i]? := cell_of_row w g i cs t (0, 0) h
theorem At.frozen {w : World} {g : Nat} {t : TypeId} {cs : Array Value} (h : At w g t cs) (i : Nat) : w.frozen? ⟨g, i, none⟩ = false := by
  unfold At at h
  simp [World.frozen?, h]
theorem At.new (w : World) (t : TypeId) (cs : Array Value) : At (w.alloc (.cells cs t)) w.heap.size t cs := heap_alloc_new w _
theorem At.keep {S : Nat → Prop} {w w' : World} {g : Nat} {t : TypeId} {cs : Array Value} (h : At w g t cs) (f : Fr S w w') (hn : ¬ S g) : At w' g t cs := (f.block g h.lt hn).trans h
theorem At.set_ {w : World} {g : Nat} {t : TypeId} {cs : Array Value} (h : At w g t cs) (i : Nat) (u : Value) : At (w.setCell ⟨g, i, none⟩ u) g t (cs.setIfInBounds i u) := by
  unfold At at h ⊢
  simp [World.setCell, Array.getElem?_modify, h]

/-! ### Bytes that are read, within a set of blocks. -/
abbrev byt (c : UInt8) : Value := .int .u8 (c.toNat : Int)
def In (w : World) (S : Nat → Prop) (a : Option Addr) (l : List UInt8) : Prop :=
  0 < l.length → ∃ b o, S b ∧ a = some ⟨b, o, none⟩ ∧ ∀ i, i < l.length → w.cell? ⟨b, o + i, none⟩ = some (.int .u8 ((l.getD i 0).toNat : Int))
theorem In.nil (w : World) (S : Nat → Prop) (a : Option Addr) : In w S a [] := fun h => absurd h (by simp)
theorem In.rd {w : World} {S : Nat → Prop} {a : Option Addr} {l : List UInt8} (h : In w S a l) : Rd w a l := fun hl => by
  obtain ⟨b, o, _, ha, hc⟩ := h hl
  exact ⟨b, o, ha, hc⟩
theorem In.sub {w : World} {S T : Nat → Prop} {a : Option Addr} {l : List UInt8} (h : In w S a l) (hs : ∀ k, k < w.heap.size → S k → T k) : In w T a l := fun hl => by
  obtain ⟨b, o, hb, ha, hc⟩ := h hl
  have h0 := hc 0 hl
  exact ⟨b, o, hs b (cell_block h0) hb, ha, hc⟩
theorem In.keep {w w' : World} {S T : Nat → Prop} {a : Option Addr} {l : List UInt8} (h : In w S a l) (f : Fr T w w') (hn : ∀ k, S k → ¬ T k) : In w' S a l := fun hl => by
  obtain ⟨b, o, hb, ha, hc⟩ := h hl
  exact ⟨b, o, hb, ha, fun i hi => f.cell (hc i hi) (hn b hb)⟩
theorem In.of_rd {w : World} {a : Option Addr} {l : List UInt8} (h : Rd w a l) : In w (Till w.heap.size) a l := fun hl => by
  obtain ⟨b, o, ha, hc⟩ := h hl
  have h0 := hc 0 hl
  exact ⟨b, o, cell_block h0, ha, hc⟩
theorem In.drop {w : World} {S : Nat → Prop} {a : Option Addr} {l : List UInt8} (h : In w S a l) (k cap : Nat) (hc : l.length ≤ cap) : In w S (cutAt a k cap) (l.drop k) := by
  intro hl
  have hl' : k < l.length := by simp at hl; omega
  obtain ⟨b, o, hb, rfl, hcell⟩ := h (by omega)
  refine ⟨b, o + k, hb, ?_, fun i hi => ?_⟩
  · unfold cutAt
    rw [if_neg (by omega)]
    unfold Addr.add
    by_cases h0 : k = 0 <;> simp [h0]
  · have hi' : k + i < l.length := by simp at hi; omega
    have h1 := hcell (k + i) hi'
    rw [Nat.add_assoc, h1]
    simp [List.getD, List.getElem?_drop]
theorem In.take {w : World} {S : Nat → Prop} {a : Option Addr} {l : List UInt8} (h : In w S a l) (k : Nat) : In w S a (l.take k) := by
  intro hl
  have hl' : 0 < l.length ∧ 0 < k := by simp at hl; omega
  obtain ⟨b, o, hb, ha, hc⟩ := h hl'.1
  refine ⟨b, o, hb, ha, fun i hi => ?_⟩
  have hi' : i < l.length ∧ i < k := by simp at hi; omega
  rw [hc i hi'.1]
  simp [List.getD, hi'.2]
end Go.Proofs.YtihahckjcedceaaDoor

/- Words for memory: a row of bytes of the call's own ('Row'). -/
namespace Go.Proofs.YtihahckjcedceaaDoor
set_option linter.unusedVariables false
open Go.RowKit

/-! ### A row of bytes of the call's own. -/
def Row (w : World) (S : Nat → Prop) (v : Value) (l : List UInt8) : Prop := w.ownsRow 0 5 1 v l.length (l.map byt) ∧ ∀ k, v.ownBlock = some k → S k
theorem Row.nil (w : World) (S : Nat → Prop) : Row w S (.slice none 0 0) [] := ⟨World.ownsRow_nil w 0 _ 1, fun k h => by simp [Value.ownBlock] at h⟩
theorem Row.sub {w : World} {S T : Nat → Prop} {v : Value} {l : List UInt8} (h : Row w S v l) (hs : ∀ k, k < w.heap.size → S k → T k) : Row w T v l :=
  ⟨h.1, fun k hk => hs k (h.1.lt k hk).2 (h.2 k hk)⟩
theorem Row.keep {w w' : World} {S T : Nat → Prop} {v : Value} {l : List UInt8} (h : Row w S v l) (f : Fr T w w') (hn : ∀ k, S k → ¬ T k) : Row w' S v l := by
  obtain ⟨⟨h1, h2⟩, h3⟩ := h
  refine ⟨⟨h1, ?_⟩, h3⟩
  rcases h2 with h2 | ⟨g, cap, cur, rfl, hb, hg, rest⟩
  · exact .inl h2
  · exact .inr ⟨g, cap, cur, rfl, hb, (f.block g (Array.getElem?_eq_some_iff.1 hg).1 (hn g (h3 g rfl))).trans hg, rest⟩
/-- A row is a slice that is read. -/
theorem Row.form {w : World} {S : Nat → Prop} {v : Value} {l : List UInt8} (h : Row w S v l) : ∃ a cap, v = .slice a l.length cap ∧ l.length ≤ cap ∧ cap ≤ maxLen ∧ In w S a l := by
  obtain ⟨⟨h1, h2⟩, h3⟩ := h
  rcases h2 with ⟨rfl, h0⟩ | ⟨g, cap, cur, rfl, hb, hg, hn, hm, hc, ht⟩
  · have : l = [] := List.eq_nil_of_length_eq_zero h0
    subst this
    exact ⟨none, 0, rfl, Nat.le_refl _, by simp [maxLen], In.nil _ _ _⟩
  · refine ⟨some ⟨g, 0, none⟩, cap, rfl, hn, hm, fun hl => ⟨g, 0, h3 g rfl, rfl, fun i hi => ?_⟩⟩
    rw [Nat.zero_add, cell_of_row w g i cur _ (0, 0) hg]
    have e : cur.toList[i]? = (l.map byt)[i]? := by
      rw [← ht, List.getElem?_take, if_pos (by omega)]
    rw [← Array.getElem?_toList, e]
    simp [List.getD, hi]
theorem Row.block {w : World} {S : Nat → Prop} {v : Value} {l : List UInt8} (h : Row w S v l) {k : Nat} (hk : v.ownBlock = some k) : S k ∧ k < w.heap.size := ⟨h.2 k hk, (h.1.lt k hk).2⟩

theorem Row.shape {w : World} {S : Nat → Prop} {v : Value} {l : List UInt8} (h : Row w S v l) : ∃ a n cap, v = .slice a n cap := by
  obtain ⟨a, cap, h1, _⟩ := h.form
  exact ⟨a, _, cap, h1⟩
theorem infoU8 : (Tryd.prog.info? 5).map (fun i => (i.zero, i.size, i.bytes)) = some (some (.int .u8 0), 1, 1) := by kernel_rfl

/-- APPEND TO A ROW of the call's own: whatever is read, nil let in. -/
theorem Row.append {w : World} {S : Nat → Prop} {v : Value} {l : List UInt8} (h : Row w S v l) (a : Option Addr) (m c : Nat) (news : List UInt8) (hm : news.length = m) (hr : Rd w a news)
    (hb : l.length + m ≤ 140737488355328) : ∃ v' w', (Builtin.append_ #[51, 51] 51 #[v, .slice a m c]).run Tryd.prog w = .ok v' w' ∧ Row w' (Gr S w w') v' (l ++ news) ∧ Fr S w w' := by
  subst hm
  obtain ⟨i0, hi, hz0, hz1, hz2⟩ := info_parts infoU8
  by_cases h0 : news = []
  · subst h0
    refine ⟨v, w, ?_, ?_, Fr.refl _ _⟩
    · rcases h.1.2 with ⟨rfl, hn⟩ | ⟨g, cap, cur, rfl, _, _, hnc, _⟩
      · cases a with
        | none => simp [Builtin.append_, run_underlying Tryd.underlying51, sizeOf, typeInfo, hi, Builtin.lenOf, Builtin.firstCells]
        | some x => simp [Builtin.append_, run_underlying Tryd.underlying51, sizeOf, typeInfo, hi, Builtin.lenOf, Builtin.firstCells, loadCells, loadCellsFrom]
      · cases a with
        | none => simp [Builtin.append_, run_underlying Tryd.underlying51, sizeOf, typeInfo, hi, Builtin.lenOf, Builtin.firstCells, hnc, storeCells]
        | some x => simp [Builtin.append_, run_underlying Tryd.underlying51, sizeOf, typeInfo, hi, Builtin.lenOf, Builtin.firstCells, loadCells, loadCellsFrom, hnc, storeCells]
    · rw [List.append_nil]
      exact h.sub fun k _ hk => .inl hk
  · obtain ⟨b, o, rfl, hc⟩ := hr (List.length_pos_iff.mpr h0)
    have hnews : ∀ j u, (news.map byt)[j]? = some u → w.cell? ((⟨b, o, none⟩ : Addr).add j) = some u := by
      intro j u hu
      have hj : j < news.length := by
        rcases Nat.lt_or_ge j news.length with h' | h'
        · exact h'
        · rw [List.getElem?_eq_none (by simpa using h')] at hu; cases hu
      have e : (⟨b, o, none⟩ : Addr).add j = ⟨b, o + j, none⟩ := by unfold Addr.add; split <;> simp_all
      rw [e, hc j hj]
      simp [hj] at hu
      simp [List.getD, hj, hu]
    obtain ⟨v', w', hrun, h2, h3, _, h5⟩ := run_append_own_at (P := Tryd.prog) w 0 51 51 5 i0 (.int .u8 0) 1 1 Tryd.underlying51 hi hz0 hz1 hz2 rfl (by decide) v l.length (l.map byt) h.1
      ⟨b, o, none⟩ news.length c (news.map byt) (by simp) hnews (by intro u hu; obtain ⟨x, _, rfl⟩ := List.mem_map.1 hu; rfl) (by unfold maxLen; omega) (by omega) (Nat.zero_le _)
    refine ⟨v', w', hrun, ⟨by rw [List.length_append, List.map_append]; exact h2, fun k hk => ?_⟩, Fr.grown h3 h.2⟩
    rcases h5 with h5 | h5
    · exact .inl (h.2 k (h5 ▸ hk))
    · rw [h5] at hk
      have hk : w.heap.size = k := Option.some.inj hk
      have h6 := (h2.lt k (by rw [h5, hk])).2
      exact .inr ⟨by omega, h6⟩
/-- What is new behind two steps is new. -/
theorem Gr.join {S : Nat → Prop} {a b c : World} (h1 : a.heap.size ≤ b.heap.size) (h2 : b.heap.size ≤ c.heap.size) (k : Nat) (h : Gr (Gr S a b) b c k) : Gr S a c k := by
  rcases h with (h | h) | h
  · exact .inl h
  · exact .inr ⟨h.1, by omega⟩
  · exact .inr ⟨by omega, h.2⟩
theorem Gr.old {S : Nat → Prop} {a b : World} {k : Nat} (hk : k < a.heap.size) (h : Gr S a b k) : S k := by
  rcases h with h | h
  · exact h
  · omega
theorem Row.join {S : Nat → Prop} {a b c : World} {v : Value} {l : List UInt8} (h : Row c (Gr (Gr S a b) b c) v l) (h1 : a.heap.size ≤ b.heap.size) (h2 : b.heap.size ≤ c.heap.size) : Row c (Gr S a c) v l :=
  h.sub fun k _ hk => Gr.join h1 h2 k hk
theorem In.join {S : Nat → Prop} {a b c : World} {v : Option Addr} {l : List UInt8} (h : In c (Gr (Gr S a b) b c) v l) (h1 : a.heap.size ≤ b.heap.size) (h2 : b.heap.size ≤ c.heap.size) : In c (Gr S a c) v l :=
  h.sub fun k _ hk => Gr.join h1 h2 k hk
theorem Rd.one (w : World) (t : TypeId) (c : UInt8) : Rd (w.alloc (.cells #[.int .u8 (c.toNat : Int)] t)) (some ⟨w.heap.size, 0, none⟩) [c] := fun _ => by
  refine ⟨_, _, rfl, fun i hi => ?_⟩
  have h : i = 0 := by simpa using hi
  subst h
  exact At.cell (At.new w t #[.int .u8 (c.toNat : Int)]) 0
/-- APPEND OF ONE BYTE, which lies in a new block of its own. -/
theorem Row.push {w : World} {S : Nat → Prop} {v : Value} {l : List UInt8} (h : Row w S v l) (hS : ∀ k, S k → k < w.heap.size) (c : UInt8) (hb : l.length < 140737488355328) :
    ∃ v' w', (Builtin.append_ #[51, 51] 51 #[v, .slice (some ⟨w.heap.size, 0, none⟩) 1 1]).run Tryd.prog (w.alloc (.cells #[.int .u8 (c.toNat : Int)] 5)) = .ok v' w' ∧ Row w' (Gr S w w') v' (l ++ [c]) ∧ Fr S w w' := by
  have f := (Fr.refl No w).alloc (.cells #[.int .u8 (c.toNat : Int)] 5)
  obtain ⟨v', w', h1, h2, h3⟩ := (h.keep f fun _ _ h => h).append (some ⟨w.heap.size, 0, none⟩) 1 1 [c] rfl (Rd.one w _ c) (by omega)
  refine ⟨v', w', h1, h2.sub fun k _ hk => ?_, (f.sub fun _ _ h => h.elim).then_ h3 fun _ _ h => h⟩
  rcases hk with hk | hk
  · exact .inl hk
  · exact .inr ⟨by have := f.size; omega, hk.2⟩
/-- A STORE INTO A ROW. -/
theorem Row.at_ {w : World} {S : Nat → Prop} {v : Value} {l : List UInt8} (h : Row w S v l) {i : Nat} (hi : i < l.length) :
    ∃ g cap, v = .slice (some ⟨g, 0, none⟩) l.length cap ∧ S g ∧ l.length ≤ cap ∧ cap ≤ maxLen ∧ w.cell? ⟨g, i, none⟩ = some (.int .u8 ((l.getD i 0).toNat : Int)) ∧ w.frozen? ⟨g, i, none⟩ = false ∧
      ∀ c : UInt8, Row (w.setCell ⟨g, i, none⟩ (.int .u8 (c.toNat : Int))) S v (l.set i c) ∧ Fr S w (w.setCell ⟨g, i, none⟩ (.int .u8 (c.toNat : Int))) := by
  obtain ⟨⟨h1, h2⟩, h3⟩ := h
  rcases h2 with ⟨rfl, h0⟩ | ⟨g, cap, cur, rfl, hb, hg, hn, hm, hc, ht⟩
  · omega
  · have e : cur.toList[i]? = (l.map byt)[i]? := by
      rw [← ht, List.getElem?_take, if_pos (by omega)]
    refine ⟨g, cap, rfl, h3 g rfl, hn, hm, ?_, ?_, fun c => ⟨⟨⟨by simp, .inr ⟨g, cap, cur.setIfInBounds i (.int .u8 (c.toNat : Int)), by rw [List.length_set], Nat.zero_le _, ?_, by rw [List.length_set]; exact hn, hm, by simpa using hc, ?_⟩⟩, h3⟩, (Fr.refl S w).setCell (fun _ => h3 g rfl) _⟩⟩
    · rw [cell_of_row w g i cur _ (0, 0) hg, ← Array.getElem?_toList, e]
      simp [List.getD, hi]
    · simp [World.frozen?, hg]
    · simp [World.setCell, Array.getElem?_modify, hg]
    · rw [List.length_set, Nat.mul_one, Array.toList_setIfInBounds, List.map_set, List.take_set]
      rw [Nat.mul_one] at ht
      rw [ht]
end Go.Proofs.YtihahckjcedceaaDoor
