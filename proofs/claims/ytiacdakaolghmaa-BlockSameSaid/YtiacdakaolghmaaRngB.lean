/-
  What a law on ranges over functions asks of an invariant: that it abides the turn of blocks that are no cells. In the words of Mem.
-/
import Derived.RangeFuncNested
import Derived.RangeFuncBound
import Derived.RangeFuncCalls
import Derived.RangeFuncLeaves
import Derived.TacticsInMore
import Derived.OwnWalkIn
import Derived.Test.YtiacdakaolghmaaMem
namespace Go.Proofs.Ytiacdakaolghmaa
set_option linter.unusedVariables false
open Go.RowKit

/-- An append whose run is known, in a fence. -/
theorem wpListIn_append_run {F : Fence} {n : Nat} {P : Program} {w : World} {ops : Array Oper} {rest : List Oper} {o : Oper} {a : Act} {Q : Exit → Act → World → Prop} (hgd : o.guard = none) (s x : Operand) (t : TypeId)
    (ho : o.op = .call { callee := .builtin .append, args := #[s, x], argTypes := #[t, t] }) {v u v' : Value} {w' : World} (hs : a.eval s = v) (hx : a.eval x = u)
    (hr : (Builtin.append_ #[t, t] o.type #[v, u]).run P w = .ok v' w') (h : wpListIn F n P ops Q rest (a.put o.dst v') w') : wpListIn F n P ops Q (o :: rest) a w := by
  refine wpListIn_plain hgd fun K hK => ?_
  unfold Oper.wpIn
  refine ⟨by simp [Oper.about, ho, resolve, Target.leads, Sem.run_pure], ?_⟩
  rw [Oper.semAt_plain F _ _ (by rw [ho]; intro c hc'; cases hc')]
  simp [execOp, ho, resolve, invoke, builtin, hs, hx, hr, Result.andThen]
  exact hK _ _ h
/-- What may turn between two rounds. -/
abbrev Turns (B : Nat) (W : World) (row : Option Nat) : Prop := ∀ r, row = some r → B ≤ r ∧ ∃ o : Obj, W.heap[r]? = some o ∧ o.isCells = false
theorem Turns.cells {B g : Nat} {W : World} {row : Option Nat} {cs : Array Value} {t : TypeId} {f : Nat × Nat} (h : Turns B W row) (hg : W.heap[g]? = some (.cells cs t f)) : some g ≠ row := fun e => by
  obtain ⟨_, o, h1, h2⟩ := h g e.symm
  rw [hg] at h1
  cases h1
  simp [Obj.isCells] at h2
theorem own_fr {w W W' : World} {row : Option Nat} {B : Nat} (hB : w.heap.size ≤ B) (h : Fr No w W) (hg : W.grownBy W' row) (hr : Turns B W row) : Fr No w W' :=
  ⟨hg.os.trans h.os, hg.tape.trans h.tape, hg.output.trans h.output, Nat.le_trans h.size hg.size, fun k hk hn =>
    (hg.block k (Nat.lt_of_lt_of_le hk h.size) (fun e => by have := (hr k e.symm).1; omega)).trans (h.block k hk hn)⟩
theorem own_at {W W' : World} {row : Option Nat} {B g : Nat} {t : TypeId} {cs : Array Value} (h : At W g t cs) (hg : W.grownBy W' row) (hr : Turns B W row) : At W' g t cs := (hg.block g h.lt (hr.cells h)).trans h
theorem own_row {W W' : World} {S : Nat → Prop} {row : Option Nat} {B : Nat} {v : Value} {l : List UInt8} (h : Row W S v l) (hg : W.grownBy W' row) (hr : Turns B W row) : Row W' S v l := by
  obtain ⟨⟨h1, h2⟩, h3⟩ := h
  refine ⟨⟨h1, ?_⟩, h3⟩
  rcases h2 with h2 | ⟨g, cap, cur, rfl, hb, hgc, rest⟩
  · exact .inl h2
  · exact .inr ⟨g, cap, cur, rfl, hb, (hg.block g (Array.getElem?_eq_some_iff.1 hgc).1 (hr.cells hgc)).trans hgc, rest⟩
/-- The set of a value's own block. -/
abbrev Own1 (v : Value) : Nat → Prop := fun k => v.ownBlock = some k
theorem Row.own {w : World} {S : Nat → Prop} {v : Value} {l : List UInt8} (h : Row w S v l) : Row w (Own1 v) v l := ⟨h.1, fun _ hk => hk⟩
end Go.Proofs.Ytiacdakaolghmaa
