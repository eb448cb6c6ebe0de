/-
  Texts of layer 13 and of what it stands on, one behind the other.
-/
import Derived.Test.YtlobnbbndkhcbaaGreatDoorRows
import Derived.WalkKit
import Derived.ProofKit
import Derived.OpenShut
import Derived.ShutString
import Derived.ChangeOld
import Derived.Below
import Derived.Laws.OwnMore
import Derived.Maps.AppendAt
import Derived.Deep.Draws

/- The frame of a law's proof, over any program: what a slice of bytes that comes in is; that arguments read behind a call as ahead of it when nothing that was there has turned; a law's condition out of its walk. -/
namespace Go.Proofs.YtlobnbbndkhcbaaGreatDoor
set_option linter.unusedVariables false
open Go.ChangeShapes Go.WideShapes Go.ChangeAt Go.RowKit

theorem cell_block {w : World} {p : Addr} {v : Value} (h : w.cell? p = some v) : p.block < w.heap.size := by
  rcases Nat.lt_or_ge p.block w.heap.size with h' | h'
  · exact h'
  · exfalso
    have : w.heap[p.block]? = none := Array.getElem?_eq_none h'
    simp [World.cell?, this] at h

/-- The bytes of a slice that is read: where there is one, it lies in memory. -/
def Rd (w : World) (a : Option Addr) (l : List UInt8) : Prop :=
  0 < l.length → ∃ b o, a = some ⟨b, o, none⟩ ∧ ∀ i, i < l.length → w.cell? ⟨b, o + i, none⟩ = some (.int .u8 ((l.getD i 0).toNat : Int))

theorem Rd.nil (w : World) (a : Option Addr) : Rd w a [] := fun h => absurd h (by simp)
theorem Rd.below {w w' : World} {a : Option Addr} {l : List UInt8} {B : Nat} (h : Rd w a l) (hb : Below B w w') (hB : w.heap.size ≤ B) : Rd w' a l := by
  intro hl
  obtain ⟨b, o, ha, hc⟩ := h hl
  refine ⟨b, o, ha, fun i hi => ?_⟩
  have h1 := hc i hi
  have h2 := cell_block h1
  exact (hb.cell (p := ⟨b, o + i, none⟩) (Nat.lt_of_lt_of_le h2 hB)).trans h1

def byteOf (n : Int) : UInt8 := UInt8.ofNat n.toNat
theorem byteOf_nat {n : Int} (h : (Lit.int .u8 n).wf = true) : ((byteOf n).toNat : Int) = n := by
  simp [Lit.wf, IntKind.min, IntKind.max, IntKind.signed, IntKind.bits] at h
  unfold byteOf
  rw [UInt8.toNat_ofNat']
  omega

section
variable {H : Type} {enc : TypeId × Value → H} {P : Program} {w : World} {base : Nat} {held : Bool}

/-- The address of 's[k:]'. -/
def cutAt (a : Option Addr) (k cap : Nat) : Option Addr := if cap = k then a else a.map (·.add k)
theorem cutAt_zero (a : Option Addr) (cap : Nat) : cutAt a 0 cap = a := by
  unfold cutAt
  split
  · rfl
  · cases a <;> simp [Addr.add]
theorem size_one {e : TypeId} (hc : P.cellsOf e = 1) (hi : ∃ i, P.info? e = some i ∧ i.size = 1) (w : World) : (sizeOf e).run P w = .ok 1 w := by
  obtain ⟨i, h1, h2⟩ := hi
  simp [sizeOf, typeInfo, h1, h2, Result.andThen]
section
variable {t e : TypeId} (ht : P.underlying t = some (.slice e)) (hz : ∀ w, (sizeOf e).run P w = .ok 1 w)
include ht hz
theorem cut_both (a : Option Addr) (len cap lo hi : Nat) (h1 : lo ≤ hi) (h2 : hi ≤ cap) (w : World) :
    (Instr.slice t (.slice a len cap) (some (.int .i64 (lo : Int))) (some (.int .i64 (hi : Int))) none).run P w = .ok (.slice (cutAt a lo cap) (hi - lo) (cap - lo)) w := by
  have he : P.elem t = e := by simp [Program.elem, ht]
  have ht' : P.underlying t = some (.slice (P.elem t)) := by rw [he]; exact ht
  rw [run_slice_lh w t a len cap ht' .i64 .i64 lo hi (by omega) (by omega) (by omega), he, hz]
  simp [Result.andThen, sliced, cutAt]
theorem cut_hi (a : Option Addr) (len cap hi : Nat) (h2 : hi ≤ cap) (w : World) :
    (Instr.slice t (.slice a len cap) none (some (.int .i64 (hi : Int))) none).run P w = .ok (.slice a hi cap) w := by
  have he : P.elem t = e := by simp [Program.elem, ht]
  have ht' : P.underlying t = some (.slice (P.elem t)) := by rw [he]; exact ht
  rw [run_slice_h w t a len cap ht' .i64 hi (by omega) (by omega), he, hz]
  have := cutAt_zero a cap
  simp [Result.andThen, sliced]
  simpa [cutAt] using this
theorem cut_lo (a : Option Addr) (len cap lo : Nat) (h1 : lo ≤ len) (w : World) :
    (Instr.slice t (.slice a len cap) (some (.int .i64 (lo : Int))) none none).run P w = .ok (.slice (cutAt a lo cap) (len - lo) (cap - lo)) w := by
  have he : P.elem t = e := by simp [Program.elem, ht]
  have ht' : P.underlying t = some (.slice (P.elem t)) := by rw [he]; exact ht
  rw [run_slice_l w t a len cap ht' .i64 lo (by omega) (by omega), he, hz]
  simp [Result.andThen, sliced, cutAt]
end
omit H enc base held in
theorem Rd.take {a : Option Addr} {l : List UInt8} (h : Rd w a l) (k : Nat) : Rd w a (l.take k) := by
  intro hl
  have hl' : 0 < l.length ∧ 0 < k := by simp at hl; omega
  obtain ⟨b, o, ha, hc⟩ := h hl'.1
  refine ⟨b, o, ha, fun i hi => ?_⟩
  have hi' : i < l.length ∧ i < k := by simp at hi; omega
  rw [hc i hi'.1]
  simp [List.getD, hi'.2]
theorem Rd.drop {a : Option Addr} {l : List UInt8} (h : Rd w a l) (k cap : Nat) (hc : l.length ≤ cap) : Rd w (cutAt a k cap) (l.drop k) := by
  intro hl
  have hl' : k < l.length := by simp at hl; omega
  obtain ⟨b, o, rfl, hcell⟩ := h (by omega)
  refine ⟨b, o + k, ?_, fun i hi => ?_⟩
  · unfold cutAt
    rw [if_neg (by omega)]
    unfold Addr.add
    by_cases h0 : k = 0 <;> simp [h0]
  · have hi' : k + i < l.length := by simp at hi; omega
    have h1 := hcell (k + i) hi'
    rw [Nat.add_assoc, h1]
    simp [List.getD, List.getElem?_drop]
/-- An append whose run is known. -/
theorem wpList_append_run {ops : Array Oper} {rest : List Oper} {o : Oper} {a : Act} {Q : Exit → Act → World → Prop} (hgd : o.guard = none) (s x : Operand) (t : TypeId)
    (ho : o.op = .call { callee := .builtin .append, args := #[s, x], argTypes := #[t, t] }) {v u v' : Value} {w' : World} (hs : a.eval s = v) (hx : a.eval x = u)
    (hr : (Builtin.append_ #[t, t] o.type #[v, u]).run P w = .ok v' w') (h : wpList P ops Q rest (a.put o.dst v') w') : wpList P ops Q (o :: rest) a w := by
  refine wpList_plain hgd fun K hK => ?_
  unfold Oper.wp
  simp only [execOp, ho, resolve, invoke, builtin, Sem.run_bind, Sem.run_pure, Result.andThen_ok, List.map_toArray, List.map_cons, List.map_nil, hs, hx, hr]
  exact hK _ _ h
/-- A SLICE OF BYTES THAT CAME IN. -/
theorem open_bytes {t e : TypeId} {v : Value} {d : DataW H} {p : List MemPlace} {bb : Nat} (ht : P.underlying t = some (.slice e)) (he : P.underlying e = some (.int .u8)) (hc : P.cellsOf e = 1)
    (hv : Value.okWide P w .any bb t v) (h : DataW.Trod enc P w base (fun _ => true) held t v d p) :
    ∃ a len cap l, v = .slice a len cap ∧ l.length = len ∧ len ≤ cap ∧ cap ≤ maxLen ∧ Rd w a l := by
  obtain ⟨a0, len0, cap0, rfl⟩ := okWide_slice ht hv
  obtain ⟨fuel, hf⟩ := h
  rcases open_ints ht he hc hf with ⟨hcs, _⟩ | ⟨x, l, c, zs, hcs, _, hl, hm, hz, _, hcell, hwz⟩
  · simp [Value.cells] at hcs
    obtain ⟨rfl, rfl, rfl⟩ := hcs
    exact ⟨none, 0, 0, [], rfl, rfl, Nat.le_refl _, by simp [maxLen], Rd.nil _ _⟩
  · simp [Value.cells] at hcs
    obtain ⟨rfl, rfl, rfl⟩ := hcs
    have hz : zs.length = cap0 := by simpa using hz
    refine ⟨some x, len0, cap0, (zs.take len0).map byteOf, rfl, by simp; omega, hl, hm, ?_⟩
    intro hlen
    have hlen : 0 < len0 := by simp at hlen; omega
    obtain ⟨b, off, spot⟩ := x
    have hc0 := hcell 0 (by omega)
    have hspot : spot = none := by simpa [Addr.add] using World.cell?_spot hc0
    subst hspot
    refine ⟨b, off, rfl, fun i hi => ?_⟩
    have hi : i < len0 := by simp at hi; omega
    have h1 := hcell i (by omega)
    have e1 : (⟨b, off, none⟩ : Addr).add i = ⟨b, off + i, none⟩ := by unfold Addr.add; split <;> simp_all
    rw [e1] at h1
    rw [h1]
    have hg : ((zs.take len0).map byteOf).getD i 0 = byteOf (zs.getD i 0) := by
      simp [List.getD, hi, show i < zs.length by omega]
    rw [hg, byteOf_nat (hwz _ (by simp [List.getD, show i < zs.length by omega]))]

/-- WHAT CAME IN READS AS IT DID. -/
theorem all_below {W W' : World} {ts : List TypeId} {vs : List Value} {ds : List (DataW H)} {p : List MemPlace} (hl : laidOutB P = true) (hts : ∀ t ∈ ts, P.readableRec t = true ∧ t < P.types.size)
    (h : DataW.TrodAll enc P W 0 (fun _ => true) true ts vs ds p) (hb : Below W.heap.size W W') : ∃ q, DataW.TrodAll enc P W' 0 (fun b => decide (b < W.heap.size)) true ts vs ds q := by
  induction ts generalizing vs ds p with
  | nil =>
    cases vs <;> cases ds <;> simp [DataW.TrodAll] at h
    exact ⟨[], rfl⟩
  | cons t ts ih =>
    obtain ⟨v0, vs0, d0, ds0, p0, q0, rfl, rfl, rfl, h0, r0⟩ := trodAll_cons h
    obtain ⟨q, hq⟩ := ih (fun t ht => hts t (List.mem_cons_of_mem _ ht)) r0
    have ht := hts t (List.mem_cons_self ..)
    have lt0 : ∀ x ∈ p0, x.block < W.heap.size := by
      obtain ⟨m, hm⟩ := h0
      exact DataW.trod_lt m _ _ _ hm
    exact ⟨p0 ++ q, trodAll_cons_mk (Below.trod hl ht.1 ht.2 h0 hb lt0) hq⟩

/-- A LAW's CONDITION: it has returned true, and nothing that was there has turned. -/
theorem law_post {f : Func} {s : ChangeSpec} {W W' : World} {args : Array Value} {ds gs : List (DataW H)} {before : List MemPlace} {tb : TypeId} (hl : laidOutB P = true)
    (hts : ∀ t ∈ f.params.toList, P.readableRec t = true ∧ t < P.types.size) (hres : f.resultTypes = #[tb]) (hbool : P.underlying tb = some .bool) (hvars : s.vars = [])
    (hs : ∀ gs', gs' = gs → s.fn H (ds ++ gs') = { results := [.lit (.bool true)], args := ds })
    (hW : DataW.Whole enc P f.params.toList s.vars false W args.toList ds gs before) (hb : Below W.heap.size W W') :
    s.post enc P f false true false false W args (.bool true) W' := by
  obtain ⟨p, q, hA, hV, hpq, hfz, hnd⟩ := hW
  have hW0 : DataW.Whole enc P f.params.toList s.vars false W args.toList ds gs before := ⟨p, q, hA, hV, hpq, hfz, hnd⟩
  obtain ⟨pa, hpa⟩ := all_below hl hts hA hb
  have e := hs gs rfl
  refine ⟨ds, gs, before, [], pa, [], hW0, ?_, ?_, ?_, hb.frame _, fun h => by cases h⟩
  · rw [e, hres]
    exact trodAll_mk1 (shut_bool hbool _)
  · rw [e]
    exact hpa
  · rw [e, hvars]
    rfl
end
end Go.Proofs.YtlobnbbndkhcbaaGreatDoor

/- Words for memory: what has turned but within a set of blocks ('Fr'); bytes that are read and lie within a set of blocks ('In'); a block known whole ('At'). No type of a program is named. -/
namespace Go.Proofs.YtlobnbbndkhcbaaGreatDoor
set_option linter.unusedVariables false
open Go.RowKit

/-- Blocks that were there and are not of S are as they were. -/
structure Fr (S : Nat → Prop) (w w' : World) : Prop where
  os : w'.os = w.os
  tape : w'.tape = w.tape
  output : w'.output = w.output
  size : w.heap.size ≤ w'.heap.size
  block : ∀ k, k < w.heap.size → ¬ S k → w'.heap[k]? = w.heap[k]?

/-- S, and what is new. -/
def Gr (S : Nat → Prop) (w w' : World) : Nat → Prop := fun k => S k ∨ (w.heap.size ≤ k ∧ k < w'.heap.size)
def No : Nat → Prop := fun _ => False
def One (b : Nat) : Nat → Prop := fun k => k = b
def Two (S T : Nat → Prop) : Nat → Prop := fun k => S k ∨ T k
/-- From block B on. -/
def From (b : Nat) : Nat → Prop := fun k => b ≤ k
def Till (b : Nat) : Nat → Prop := fun k => k < b

theorem Fr.refl (S : Nat → Prop) (w : World) : Fr S w w := ⟨rfl, rfl, rfl, Nat.le_refl _, fun _ _ _ => rfl⟩
theorem Fr.sub {S T : Nat → Prop} {w w' : World} (h : Fr S w w') (hs : ∀ k, k < w.heap.size → S k → T k) : Fr T w w' :=
  ⟨h.os, h.tape, h.output, h.size, fun k hk hn => h.block k hk fun hS => hn (hs k hk hS)⟩
/-- Behind a step that may turn T: T within S, or new. -/
theorem Fr.then_ {S T : Nat → Prop} {a b c : World} (h : Fr S a b) (k : Fr T b c) (ht : ∀ x, x < a.heap.size → T x → S x) : Fr S a c :=
  ⟨k.os.trans h.os, k.tape.trans h.tape, k.output.trans h.output, Nat.le_trans h.size k.size, fun x hx hn => (k.block x (Nat.lt_of_lt_of_le hx h.size) fun hT => hn (ht x hx hT)).trans (h.block x hx hn)⟩
theorem Fr.trans {S : Nat → Prop} {a b c : World} (h : Fr S a b) (k : Fr S b c) : Fr S a c := h.then_ k fun _ _ h => h
theorem Fr.drew {S : Nat → Prop} {a w : World} (h : Fr S a w) : Fr S a w.drew := ⟨h.os, h.tape, h.output, h.size, h.block⟩
theorem Fr.drewN {S : Nat → Prop} {a w : World} (h : Fr S a w) (n : Nat) : Fr S a (w.drewN n) := ⟨h.os, h.tape, h.output, h.size, h.block⟩
theorem Fr.alloc {S : Nat → Prop} {a w : World} (h : Fr S a w) (o : Obj) : Fr S a (w.alloc o) :=
  ⟨h.os, h.tape, h.output, Nat.le_trans h.size (by simp), fun k hk hn => (Below.heap_alloc w o k (Nat.lt_of_lt_of_le hk h.size)).trans (h.block k hk hn)⟩
theorem Fr.setCell {S : Nat → Prop} {a w : World} (h : Fr S a w) {p : Addr} (hp : p.block < a.heap.size → S p.block) (u : Value) : Fr S a (w.setCell p u) :=
  ⟨h.os, h.tape, h.output, by simpa [World.setCell] using h.size, fun k hk hn => (Below.heap_setCell w p u k (by rintro rfl; exact hn (hp hk))).trans (h.block k hk hn)⟩
theorem Fr.grown {S : Nat → Prop} {w w' : World} {row : Option Nat} (hg : w.grownBy w' row) (hr : ∀ k, row = some k → S k) : Fr S w w' :=
  ⟨hg.os, hg.tape, hg.output, hg.size, fun k hk hn => hg.block k hk fun e => hn (hr k e.symm)⟩
theorem Fr.below {S : Nat → Prop} {w w' : World} {B : Nat} (h : Fr S w w') (hB : B ≤ w.heap.size) (hS : ∀ k, S k → B ≤ k) : Below B w w' :=
  ⟨h.os, h.tape, h.output, h.size, fun k hk => h.block k (Nat.lt_of_lt_of_le hk hB) fun hs => absurd (hS k hs) (by omega)⟩
theorem Fr.of_below {w w' : World} {B : Nat} (h : Below B w w') : Fr (From B) w w' :=
  ⟨h.os, h.tape, h.output, h.size, fun k hk hn => h.block k (by unfold From at hn; omega)⟩
theorem Fr.cell {S : Nat → Prop} {w w' : World} (h : Fr S w w') {p : Addr} {v : Value} (hc : w.cell? p = some v) (hn : ¬ S p.block) : w'.cell? p = some v :=
  (World.cell?_of_block (h.block p.block (cell_block hc) hn)).trans hc
theorem Fr.frozen {S : Nat → Prop} {w w' : World} (h : Fr S w w') {p : Addr} (hp : p.block < w.heap.size) (hn : ¬ S p.block) : w'.frozen? p = w.frozen? p :=
  World.frozen?_of_block (h.block p.block hp hn)

/-! ### A block known whole. -/
def At (w : World) (g : Nat) (t : TypeId) (cs : Array Value) : Prop := w.heap[g]? = some (.cells cs t (0, 0))
theorem At.lt {w : World} {g : Nat} {t : TypeId} {cs : Array Value} (h : At w g t cs) : g < w.heap.size := by
  rcases Nat.lt_or_ge g w.heap.size with h' | h'
  · exact h'
  · unfold At at h; rw [Array.getElem?_eq_none h'] at h; cases h
theorem At.cell {w : World} {g : Nat} {t : TypeId} {cs : Array Value} (h : At w g t cs) (i : Nat) : w.cell? ⟨g, i, none⟩ = cs[i]? := cell_of_row w g i cs t (0, 0) h
theorem At.frozen {w : World} {g : Nat} {t : TypeId} {cs : Array Value} (h : At w g t cs) (i : Nat) : w.frozen? ⟨g, i, none⟩ = false := by
  unfold At at h
  simp [World.frozen?, h]
theorem At.new (w : World) (t : TypeId) (cs : Array Value) : At (w.alloc (.cells cs t)) w.heap.size t cs := heap_alloc_new w _
theorem At.keep {S : Nat → Prop} {w w' : World} {g : Nat} {t : TypeId} {cs : Array Value} (h : At w g t cs) (f : Fr S w w') (hn : ¬ S g) : At w' g t cs := (f.block g h.lt hn).trans h
theorem At.set_ {w : World} {g : Nat} {t : TypeId} {cs : Array Value} (h : At w g t cs) (i : Nat) (u : Value) : At (w.setCell ⟨g, i, none⟩ u) g t (cs.setIfInBounds i u) := by
  unfold At at h ⊢
  simp [World.setCell, Array.getElem?_modify, h]

/-! ### Bytes that are read, within a set of blocks. -/
abbrev byt (c : UInt8) : Value := .int .u8 (c.toNat : Int)
def In (w : World) (S : Nat → Prop) (a : Option Addr) (l : List UInt8) : Prop :=
  0 < l.length → ∃ b o, S b ∧ a = some ⟨b, o, none⟩ ∧ ∀ i, i < l.length → w.cell? ⟨b, o + i, none⟩ = some (.int .u8 ((l.getD i 0).toNat : Int))
theorem In.nil (w : World) (S : Nat → Prop) (a : Option Addr) : In w S a [] := fun h => absurd h (by simp)
theorem In.rd {w : World} {S : Nat → Prop} {a : Option Addr} {l : List UInt8} (h : In w S a l) : Rd w a l := fun hl => by
  obtain ⟨b, o, _, ha, hc⟩ := h hl
  exact ⟨b, o, ha, hc⟩
theorem In.sub {w : World} {S T : Nat → Prop} {a : Option Addr} {l : List UInt8} (h : In w S a l) (hs : ∀ k, k < w.heap.size → S k → T k) : In w T a l := fun hl => by
  obtain ⟨b, o, hb, ha, hc⟩ := h hl
  have h0 := hc 0 hl
  exact ⟨b, o, hs b (cell_block h0) hb, ha, hc⟩
theorem In.keep {w w' : World} {S T : Nat → Prop} {a : Option Addr} {l : List UInt8} (h : In w S a l) (f : Fr T w w') (hn : ∀ k, S k → ¬ T k) : In w' S a l := fun hl => by
  obtain ⟨b, o, hb, ha, hc⟩ := h hl
  exact ⟨b, o, hb, ha, fun i hi => f.cell (hc i hi) (hn b hb)⟩
theorem In.of_rd {w : World} {a : Option Addr} {l : List UInt8} (h : Rd w a l) : In w (Till w.heap.size) a l := fun hl => by
  obtain ⟨b, o, ha, hc⟩ := h hl
  have h0 := hc 0 hl
  exact ⟨b, o, cell_block h0, ha, hc⟩
theorem In.drop {w : World} {S : Nat → Prop} {a : Option Addr} {l : List UInt8} (h : In w S a l) (k cap : Nat) (hc : l.length ≤ cap) : In w S (cutAt a k cap) (l.drop k) := by
  intro hl
  have hl' : k < l.length := by simp at hl; omega
  obtain ⟨b, o, hb, rfl, hcell⟩ := h (by omega)
  refine ⟨b, o + k, hb, ?_, fun i hi => ?_⟩
  · unfold cutAt
    rw [if_neg (by omega)]
    unfold Addr.add
    by_cases h0 : k = 0 <;> simp [h0]
  · have hi' : k + i < l.length := by simp at hi; omega
    have h1 := hcell (k + i) hi'
    rw [Nat.add_assoc, h1]
    simp [List.getD, List.getElem?_drop]
theorem In.take {w : World} {S : Nat → Prop} {a : Option Addr} {l : List UInt8} (h : In w S a l) (k : Nat) : In w S a (l.take k) := by
  intro hl
  have hl' : 0 < l.length ∧ 0 < k := by simp at hl; omega
  obtain ⟨b, o, hb, ha, hc⟩ := h hl'.1
  refine ⟨b, o, hb, ha, fun i hi => ?_⟩
  have hi' : i < l.length ∧ i < k := by simp at hi; omega
  rw [hc i hi'.1]
  simp [List.getD, hi'.2]
end Go.Proofs.YtlobnbbndkhcbaaGreatDoor
