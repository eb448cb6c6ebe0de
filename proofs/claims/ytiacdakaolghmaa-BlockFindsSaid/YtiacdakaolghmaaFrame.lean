/-
  The frame of a law's proof, over any program: what a slice of bytes that comes in is; that arguments read behind a call as ahead of it when nothing that was there has turned; a law's condition out of its walk.
-/
import Derived.Test.YtiacdakaolghmaaRows
import Derived.WalkKit
import Derived.ProofKit
import Derived.OpenShut
import Derived.ShutString
import Derived.ChangeOld
import Derived.Below
namespace Go.Proofs.Ytiacdakaolghmaa
set_option linter.unusedVariables false
open Go.ChangeShapes Go.WideShapes Go.ChangeAt Go.RowKit

theorem cell_block {w : World} {p : Addr} {v : Value} (h : w.cell? p = some v) : p.block < w.heap.size := by
  rcases Nat.lt_or_ge p.block w.heap.size with h' | h'
  · exact h'
  · exfalso
    have : w.heap[p.block]? = none := Array.getElem?_eq_none h'
    simp [World.cell?, this] at h

/-- The bytes of a slice that is read: where there is one, it lies in memory. -/
def Rd (w : World) (a : Option Addr) (l : List UInt8) : Prop :=
  0 < l.length → ∃ b o, a = some ⟨b, o, none⟩ ∧ ∀ i, i < l.length → w.cell? ⟨b, o + i, none⟩ = some (.int .u8 ((l.getD i 0).toNat : Int))

theorem Rd.nil (w : World) (a : Option Addr) : Rd w a [] := fun h => absurd h (by simp)
theorem Rd.below {w w' : World} {a : Option Addr} {l : List UInt8} {B : Nat} (h : Rd w a l) (hb : Below B w w') (hB : w.heap.size ≤ B) : Rd w' a l := by
  intro hl
  obtain ⟨b, o, ha, hc⟩ := h hl
  refine ⟨b, o, ha, fun i hi => ?_⟩
  have h1 := hc i hi
  have h2 := cell_block h1
  exact (hb.cell (p := ⟨b, o + i, none⟩) (Nat.lt_of_lt_of_le h2 hB)).trans h1

def byteOf (n : Int) : UInt8 := UInt8.ofNat n.toNat
theorem byteOf_nat {n : Int} (h : (Lit.int .u8 n).wf = true) : ((byteOf n).toNat : Int) = n := by
  simp [Lit.wf, IntKind.min, IntKind.max, IntKind.signed, IntKind.bits] at h
  unfold byteOf
  rw [UInt8.toNat_ofNat']
  omega

section
variable {H : Type} {enc : TypeId × Value → H} {P : Program} {w : World} {base : Nat} {held : Bool}

/-- The address of 's[k:]'. -/
def cutAt (a : Option Addr) (k cap : Nat) : Option Addr := if cap = k then a else a.map (·.add k)
theorem cutAt_zero (a : Option Addr) (cap : Nat) : cutAt a 0 cap = a := by
  unfold cutAt
  split
  · rfl
  · cases a <;> simp [Addr.add]
theorem size_one {e : TypeId} (hc : P.cellsOf e = 1) (hi : ∃ i, P.info? e = some i ∧ i.size = 1) (w : World) : (sizeOf e).run P w = .ok 1 w := by
  obtain ⟨i, h1, h2⟩ := hi
  simp [sizeOf, typeInfo, h1, h2, Result.andThen]
section
variable {t e : TypeId} (ht : P.underlying t = some (.slice e)) (hz : ∀ w, (sizeOf e).run P w = .ok 1 w)
include ht hz
theorem cut_both (a : Option Addr) (len cap lo hi : Nat) (h1 : lo ≤ hi) (h2 : hi ≤ cap) (w : World) :
    (Instr.slice t (.slice a len cap) (some (.int .i64 (lo : Int))) (some (.int .i64 (hi : Int))) none).run P w = .ok (.slice (cutAt a lo cap) (hi - lo) (cap - lo)) w := by
  have he : P.elem t = e := by simp [Program.elem, ht]
  have ht' : P.underlying t = some (.slice (P.elem t)) := by rw [he]; exact ht
  rw [run_slice_lh w t a len cap ht' .i64 .i64 lo hi (by omega) (by omega) (by omega), he, hz]
  simp [Result.andThen, sliced, cutAt]
theorem cut_hi (a : Option Addr) (len cap hi : Nat) (h2 : hi ≤ cap) (w : World) :
    (Instr.slice t (.slice a len cap) none (some (.int .i64 (hi : Int))) none).run P w = .ok (.slice a hi cap) w := by
  have he : P.elem t = e := by simp [Program.elem, ht]
  have ht' : P.underlying t = some (.slice (P.elem t)) := by rw [he]; exact ht
  rw [run_slice_h w t a len cap ht' .i64 hi (by omega) (by omega), he, hz]
  have := cutAt_zero a cap
  simp [Result.andThen, sliced]
  simpa [cutAt] using this
theorem cut_lo (a : Option Addr) (len cap lo : Nat) (h1 : lo ≤ len) (w : World) :
    (Instr.slice t (.slice a len cap) (some (.int .i64 (lo : Int))) none none).run P w = .ok (.slice (cutAt a lo cap) (len - lo) (cap - lo)) w := by
  have he : P.elem t = e := by simp [Program.elem, ht]
  have ht' : P.underlying t = some (.slice (P.elem t)) := by rw [he]; exact ht
  rw [run_slice_l w t a len cap ht' .i64 lo (by omega) (by omega), he, hz]
  simp [Result.andThen, sliced, cutAt]
end
omit H enc base held in
theorem Rd.take {a : Option Addr} {l : List UInt8} (h : Rd w a l) (k : Nat) : Rd w a (l.take k) := by
  intro hl
  have hl' : 0 < l.length ∧ 0 < k := by simp at hl; omega
  obtain ⟨b, o, ha, hc⟩ := h hl'.1
  refine ⟨b, o, ha, fun i hi => ?_⟩
  have hi' : i < l.length ∧ i < k := by simp at hi; omega
  rw [hc i hi'.1]
  simp [List.getD, hi'.2]
theorem Rd.drop {a : Option Addr} {l : List UInt8} (h : Rd w a l) (k cap : Nat) (hc : l.length ≤ cap) : Rd w (cutAt a k cap) (l.drop k) := by
  intro hl
  have hl' : k < l.length := by simp at hl; omega
  obtain ⟨b, o, rfl, hcell⟩ := h (by omega)
  refine ⟨b, o + k, ?_, fun i hi => ?_⟩
  · unfold cutAt
    rw [if_neg (by omega)]
    unfold Addr.add
    by_cases h0 : k = 0 <;> simp [h0]
  · have hi' : k + i < l.length := by simp at hi; omega
    have h1 := hcell (k + i) hi'
    rw [Nat.add_assoc, h1]
    simp [List.getD, List.getElem?_drop]
/-- An append whose run is known. -/
theorem wpList_append_run {ops : Array Oper} {rest : List Oper} {o : Oper} {a : Act} {Q : Exit → Act → World → Prop} (hgd : o.guard = none) (s x : Operand) (t : TypeId)
    (ho : o.op = .call { callee := .builtin .append, args := #[s, x], argTypes := #[t, t] }) {v u v' : Value} {w' : World} (hs : a.eval s = v) (hx : a.eval x = u)
    (hr : (Builtin.append_ #[t, t] o.type #[v, u]).run P w = .ok v' w') (h : wpList P ops Q rest (a.put o.dst v') w') : wpList P ops Q (o :: rest) a w := by
  refine wpList_plain hgd fun K hK => ?_
  unfold Oper.wp
  simp only [execOp, ho, resolve, invoke, builtin, Sem.run_bind, Sem.run_pure, Result.andThen_ok, List.map_toArray, List.map_cons, List.map_nil, hs, hx, hr]
  exact hK _ _ h
/-- A SLICE OF BYTES THAT CAME IN. -/
theorem open_bytes {t e : TypeId} {v : Value} {d : DataW H} {p : List MemPlace} {bb : Nat} (ht : P.underlying t = some (.slice e)) (he : P.underlying e = some (.int .u8)) (hc : P.cellsOf e = 1)
    (hv : Value.okWide P w .any bb t v) (h : DataW.Trod enc P w base (fun _ => true) held t v d p) :
    ∃ a len cap l, v = .slice a len cap ∧ l.length = len ∧ len ≤ cap ∧ cap ≤ maxLen ∧ Rd w a l := by
  obtain ⟨a0, len0, cap0, rfl⟩ := okWide_slice ht hv
  obtain ⟨fuel, hf⟩ := h
  rcases open_ints ht he hc hf with ⟨hcs, _⟩ | ⟨x, l, c, zs, hcs, _, hl, hm, hz, _, hcell, hwz⟩
  · simp [Value.cells] at hcs
    obtain ⟨rfl, rfl, rfl⟩ := hcs
    exact ⟨none, 0, 0, [], rfl, rfl, Nat.le_refl _, by simp [maxLen], Rd.nil _ _⟩
  · simp [Value.cells] at hcs
    obtain ⟨rfl, rfl, rfl⟩ := hcs
    have hz : zs.length = cap0 := by simpa using hz
    refine ⟨some x, len0, cap0, (zs.take len0).map byteOf, rfl, by simp; omega, hl, hm, ?_⟩
    intro hlen
    have hlen : 0 < len0 := by simp at hlen; omega
    obtain ⟨b, off, spot⟩ := x
    have hc0 := hcell 0 (by omega)
    have hspot : spot = none := by simpa [Addr.add] using World.cell?_spot hc0
    subst hspot
    refine ⟨b, off, rfl, fun i hi => ?_⟩
    have hi : i < len0 := by simp at hi; omega
    have h1 := hcell i (by omega)
    have e1 : (⟨b, off, none⟩ : Addr).add i = ⟨b, off + i, none⟩ := by unfold Addr.add; split <;> simp_all
    rw [e1] at h1
    rw [h1]
    have hg : ((zs.take len0).map byteOf).getD i 0 = byteOf (zs.getD i 0) := by
      simp [List.getD, hi, show i < zs.length by omega]
    rw [hg, byteOf_nat (hwz _ (by simp [List.getD, show i < zs.length by omega]))]

/-- WHAT CAME IN READS AS IT DID. -/
theorem all_below {W W' : World} {ts : List TypeId} {vs : List Value} {ds : List (DataW H)} {p : List MemPlace} (hl : laidOutB P = true) (hts : ∀ t ∈ ts, P.readableRec t = true ∧ t < P.types.size)
    (h : DataW.TrodAll enc P W 0 (fun _ => true) true ts vs ds p) (hb : Below W.heap.size W W') : ∃ q, DataW.TrodAll enc P W' 0 (fun b => decide (b < W.heap.size)) true ts vs ds q := by
  induction ts generalizing vs ds p with
  | nil =>
    cases vs <;> cases ds <;> simp [DataW.TrodAll] at h
    exact ⟨[], rfl⟩
  | cons t ts ih =>
    obtain ⟨v0, vs0, d0, ds0, p0, q0, rfl, rfl, rfl, h0, r0⟩ := trodAll_cons h
    obtain ⟨q, hq⟩ := ih (fun t ht => hts t (List.mem_cons_of_mem _ ht)) r0
    have ht := hts t (List.mem_cons_self ..)
    have lt0 : ∀ x ∈ p0, x.block < W.heap.size := by
      obtain ⟨m, hm⟩ := h0
      exact DataW.trod_lt m _ _ _ hm
    exact ⟨p0 ++ q, trodAll_cons_mk (Below.trod hl ht.1 ht.2 h0 hb lt0) hq⟩

/-- A LAW's CONDITION: it has returned true, and nothing that was there has turned. -/
theorem law_post {f : Func} {s : ChangeSpec} {W W' : World} {args : Array Value} {ds gs : List (DataW H)} {before : List MemPlace} {tb : TypeId} (hl : laidOutB P = true)
    (hts : ∀ t ∈ f.params.toList, P.readableRec t = true ∧ t < P.types.size) (hres : f.resultTypes = #[tb]) (hbool : P.underlying tb = some .bool) (hvars : s.vars = [])
    (hs : ∀ gs', gs' = gs → s.fn H (ds ++ gs') = { results := [.lit (.bool true)], args := ds })
    (hW : DataW.Whole enc P f.params.toList s.vars false W args.toList ds gs before) (hb : Below W.heap.size W W') :
    s.post enc P f false true false false W args (.bool true) W' := by
  obtain ⟨p, q, hA, hV, hpq, hfz, hnd⟩ := hW
  have hW0 : DataW.Whole enc P f.params.toList s.vars false W args.toList ds gs before := ⟨p, q, hA, hV, hpq, hfz, hnd⟩
  obtain ⟨pa, hpa⟩ := all_below hl hts hA hb
  have e := hs gs rfl
  refine ⟨ds, gs, before, [], pa, [], hW0, ?_, ?_, ?_, hb.frame _, fun h => by cases h⟩
  · rw [e, hres]
    exact trodAll_mk1 (shut_bool hbool _)
  · rw [e]
    exact hpa
  · rw [e, hvars]
    rfl
end
end Go.Proofs.Ytiacdakaolghmaa
