/-
  Texts of layer 13 and of what it stands on, one behind the other.
-/
import Derived.Test.YtlobnbbndkhcbaaGreatDoorMg07
import Derived.Test.YtlobnbbndkhcbaaGreatDoorMg02
import Derived.Test.YtlobnbbndkhcbaaGreatDoorMg05
import Derived.Test.YtlobnbbndkhcbaaGreatDoorMg01
import Derived.Deep.RegionHeld3
import Derived.RangeFuncNested
import Derived.RangeFuncBound
import Derived.RangeFuncCalls
import Derived.RangeFuncLeaves
import Derived.TacticsInMore
import Derived.OwnWalkIn

/- Arguments opened: rows of numbers (bytes: OpenBy). -/
namespace Go.Proofs.YtlobnbbndkhcbaaGreatDoor
set_option linter.unusedVariables false
open Go.ChangeShapes Go.WideShapes Go.ChangeAt Go.RowKit Go.Deep

section
variable {H : Type} {enc : TypeId × Value → H} {w : World} {base : Nat} {spare : Nat → Bool} {held : Bool}
set_option maxRecDepth 20000 in
theorem ints_of {fuel : Nat} {v : Value} {y : DataW H × List MemPlace} (h : DataW.trod enc Tryz.prog w base spare held fuel 43 [v] = some y) :
    ∃ a cap l, v = .slice a l.length cap ∧ l.length ≤ cap ∧ cap ≤ maxLen ∧ Ints w a l := by
  rcases open_ints Tryz.underlying43 Tryz.underlying3 cellsInt h with ⟨hcs, _⟩ | ⟨x, l, c, zs, hcs, _, hl, hm, hz, _, hcell, hwz⟩
  · cases hcs
    exact ⟨none, 0, [], rfl, Nat.le_refl _, by simp [maxLen], fun h => absurd h (by simp)⟩
  · cases hcs
    have hzl : l ≤ zs.length := by rw [hz]; split <;> omega
    refine ⟨some x, c, zs.take l, by congr 1; simp; omega, by simp; omega, hm, ?_⟩
    intro hlen
    have hlen : 0 < l := by simp at hlen; omega
    obtain ⟨b, off, spot⟩ := x
    have hc0 := hcell 0 (by omega)
    have hspot : spot = none := by simpa [Addr.add] using World.cell?_spot hc0
    subst hspot
    refine ⟨b, off, rfl, fun i x hi => ?_⟩
    have hil : i < l := by
      rcases Nat.lt_or_ge i l with h' | h'
      · exact h'
      · rw [List.getElem?_eq_none (by simp; omega)] at hi; cases hi
    rw [List.getElem?_take, if_pos hil] at hi
    have h1 := hcell i (by omega)
    rw [add_plain] at h1
    have e : zs.getD i 0 = x := by simp [List.getD, hi]
    rw [e] at h1
    exact ⟨h1, hwz x (List.mem_of_getElem? hi)⟩
end
end Go.Proofs.YtlobnbbndkhcbaaGreatDoor

/- A row of integers of the call's own ('RowI'), as 'Row' is one of bytes. -/
namespace Go.Proofs.YtlobnbbndkhcbaaGreatDoor
set_option linter.unusedVariables false
open Go.RowKit

abbrev ig (x : Int) : Value := .int .i64 x
def RowI (w : World) (S : Nat → Prop) (v : Value) (l : List Int) : Prop := w.ownsRow 0 3 1 v l.length (l.map ig) ∧ ∀ k, v.ownBlock = some k → S k
theorem RowI.nil (w : World) (S : Nat → Prop) : RowI w S (.slice none 0 0) [] := ⟨World.ownsRow_nil w 0 _ 1, fun k h => by simp [Value.ownBlock] at h⟩
theorem RowI.sub {w : World} {S T : Nat → Prop} {v : Value} {l : List Int} (h : RowI w S v l) (hs : ∀ k, k < w.heap.size → S k → T k) : RowI w T v l := ⟨h.1, fun k hk => hs k (h.1.lt k hk).2 (h.2 k hk)⟩
theorem RowI.keep {w w' : World} {S T : Nat → Prop} {v : Value} {l : List Int} (h : RowI w S v l) (f : Fr T w w') (hn : ∀ k, S k → ¬ T k) : RowI w' S v l := by
  obtain ⟨⟨h1, h2⟩, h3⟩ := h
  refine ⟨⟨h1, ?_⟩, h3⟩
  rcases h2 with h2 | ⟨g, cap, cur, rfl, hb, hg, rest⟩
  · exact .inl h2
  · exact .inr ⟨g, cap, cur, rfl, hb, (f.block g (Array.getElem?_eq_some_iff.1 hg).1 (hn g (h3 g rfl))).trans hg, rest⟩
theorem RowI.form {w : World} {S : Nat → Prop} {v : Value} {l : List Int} (h : RowI w S v l) : ∃ a cap, v = .slice a l.length cap ∧ l.length ≤ cap ∧ cap ≤ maxLen ∧ (0 < l.length → ∃ b o, S b ∧ a = some ⟨b, o, none⟩ ∧ ∀ i, i < l.length → w.cell? ⟨b, o + i, none⟩ = some (.int .i64 (l.getD i 0))) := by
  obtain ⟨⟨h1, h2⟩, h3⟩ := h
  rcases h2 with ⟨rfl, h0⟩ | ⟨g, cap, cur, rfl, hb, hg, hn, hm, hc, ht⟩
  · have : l = [] := List.eq_nil_of_length_eq_zero h0
    subst this
    exact ⟨none, 0, rfl, Nat.le_refl _, by simp [maxLen], fun h => absurd h (by simp)⟩
  · refine ⟨some ⟨g, 0, none⟩, cap, rfl, hn, hm, fun hl => ⟨g, 0, h3 g rfl, rfl, fun i hi => ?_⟩⟩
    rw [Nat.zero_add, cell_of_row w g i cur _ (0, 0) hg]
    have e : cur.toList[i]? = (l.map ig)[i]? := by
      rw [← ht, List.getElem?_take, if_pos (by omega)]
    rw [← Array.getElem?_toList, e]
    simp [List.getD, hi]
theorem RowI.join {S : Nat → Prop} {a b c : World} {v : Value} {l : List Int} (h : RowI c (Gr (Gr S a b) b c) v l) (h1 : a.heap.size ≤ b.heap.size) (h2 : b.heap.size ≤ c.heap.size) : RowI c (Gr S a c) v l :=
  h.sub fun k _ hk => Gr.join h1 h2 k hk
theorem infoI64 : (Tryz.prog.info? 3).map (fun i => (i.zero, i.size, i.bytes)) = some (some (.int .i64 0), 1, 8) := by kernel_rfl
/-- APPEND OF ONE INTEGER, which lies in a new block of its own. -/
theorem RowI.push {w : World} {S : Nat → Prop} {v : Value} {l : List Int} (h : RowI w S v l) (hS : ∀ k, S k → k < w.heap.size) (x : Int) (hb : l.length < 1000000) :
    ∃ v' w', (Builtin.append_ #[43, 43] 43 #[v, .slice (some ⟨w.heap.size, 0, none⟩) 1 1]).run Tryz.prog (w.alloc (.cells #[.int .i64 x] 3)) = .ok v' w' ∧ RowI w' (Gr S w w') v' (l ++ [x]) ∧ Fr S w w' := by
  obtain ⟨i0, hi, hz0, hz1, hz2⟩ := info_parts infoI64
  have f := (Fr.refl No w).alloc (.cells #[.int .i64 x] 3)
  have h' := h.keep f fun _ _ h => h
  obtain ⟨v', w', hrun, h2, h3, _, h5⟩ := run_append_own_at (P := Tryz.prog) (w.alloc (.cells #[.int .i64 x] 3)) 0 43 43 3 i0 (.int .i64 0) 1 8 Tryz.underlying43 hi hz0 hz1 hz2 rfl (by decide) v l.length (l.map ig) h'.1
    ⟨w.heap.size, 0, none⟩ 1 1 [ig x] rfl (cell_one_new _ _ _) (by simp [Value.oneCell']) (by unfold maxLen; omega) (by omega) (Nat.zero_le _)
  have hf3 := Fr.grown h3 h'.2
  have hsz := f.size
  refine ⟨v', w', hrun, ⟨by rw [List.length_append, List.map_append]; exact h2, fun k hk => ?_⟩, (f.sub fun _ _ h => h.elim).then_ hf3 fun _ _ h => h⟩
  rcases h5 with h5 | h5
  · exact .inl (h.2 k (h5 ▸ hk))
  · rw [h5] at hk
    have hk : (w.alloc (.cells #[.int .i64 x] 3)).heap.size = k := Option.some.inj hk
    have h6 := (h2.lt k (by rw [h5, hk])).2
    exact .inr ⟨by omega, h6⟩
end Go.Proofs.YtlobnbbndkhcbaaGreatDoor

/- Layer 12: what Build, Open and At answer. -/
namespace Go.Proofs.YtlobnbbndkhcbaaGreatDoor
set_option linter.unusedVariables false
open Go.RowKit

def buildE (l : List Pr) (e : Int) : Int := if e < 1 ∨ 64 < e then 70 else if ordP l then 0 else 31
def buildB (l : List Pr) (e : Int) : List UInt8 := if buildE l e = 0 then blockB e.toNat l else []
/-- What Build answers. -/
def BuildRet (l : List Pr) (e : Int) (w : World) (en : Ending) (w' : World) : Prop := ∃ v, en = .returned (.tuple #[v, .int .i64 (buildE l e)]) ∧ RowQ w' (Gr No w w') v (buildB l e) ∧ Fr No w w'
/-- What Open answers: a block of the pairs whose bytes these are, or that they are of none. -/
def OpenRet (X : World → Nat → (Nat → Prop) → List Pr → Nat → Prop) (b : List UInt8) (w : World) (en : Ending) (w' : World) : Prop :=
  (∃ l e x F, 1 ≤ e ∧ e ≤ 64 ∧ ordP l ∧ blockB e l = b ∧ en = .returned (.tuple #[.pointer (some ⟨x, 0, none⟩), .int .i64 0]) ∧ X w' x F l e ∧ (∀ k, F k → w.heap.size ≤ k) ∧ Fr No w w') ∨
  ((∀ l e, 1 ≤ e → e ≤ 64 → ordP l → blockB e l ≠ b) ∧ en = .returned (.tuple #[.pointer none, .int .i64 20]) ∧ Fr No w w')
def atP (l : List Pr) (i : Int) : Pr := if 0 ≤ i ∧ i < l.length then l.getD i.toNat pr0 else pr0
end Go.Proofs.YtlobnbbndkhcbaaGreatDoor

/- A region that draws its order, taken by hand: the takes read off the list; and S made stronger on the way. Over any program. -/
namespace Go.Proofs.YtlobnbbndkhcbaaGreatDoor
set_option linter.unusedVariables false
open Go.RowKit

theorem at_drop {ops : Array Oper} {i : Nat} {o : Oper} {rest : List Oper} (h : ops.toList.drop i = o :: rest) : ops[i]? = some o := by
  have : (ops.toList.drop i)[0]? = some o := by rw [h]; rfl
  rw [List.getElem?_drop, Nat.add_zero, Array.getElem?_toList] at this
  exact this
section
variable {P : Program} {ops : Array Oper} {Q : Exit → Act → World → Prop} {md : Region.Mode} {S S' : World → Prop}
/-- 'wpAnyH_take', the operation read off the list (so that it comes out plain). -/
theorem take_drop {i : Nat} {oi : Oper} {rest : List Oper} {v : Value} {fuel : Nat} {listed : Array Bool} {a : Act} {w : World} (hi : ops.toList.drop i = oi :: rest)
    (hs : Region.noSelect ops = true) (hf : Region.free md ops listed i = true) (hr : (Region.ready md ops listed).contains i = true)
    (hQ : ∀ c a w, Q (.panic c) (a.put oi.dst v) w → Q (.panic c) a w) (hy : YieldsIf P ops S oi v a) (hS : S w)
    (h : wpAnyH P md ops Q S fuel (listed.setIfInBounds i true) (a.put oi.dst v) w) : wpAnyH P md ops Q S (fuel + 1) listed a w :=
  wpAnyH_take (at_drop hi) hs hf hr hQ hy hS h
/-- One that comes up is carried out. -/
theorem do_drop {i : Nat} {o : Oper} {rest : List Oper} {fuel : Nat} {listed : Array Bool} {a : Act} {w : World} {rs : List Nat} (hi : ops.toList.drop i = o :: rest)
    (h : ∀ K' : Act → World → Prop, Shut (∀ a w, S w → wpAnyH P md ops Q S fuel (listed.setIfInBounds i true) a w → K' a w) → if Region.wanted o (yielded ops a.tmps) = true then Oper.wp P o a w K' Q else K' (a.put o.dst undef) w)
    (hs : AllReadyH P md ops Q S fuel listed a w rs) : AllReadyH P md ops Q S fuel listed a w (i :: rs) :=
  AllReadyH.cons (at_drop hi) (fun K' hK => h K' (fun a w hS hW => hK.out a w hS (fun _ => hW))) hs
/-- More may be asked of the worlds to come. -/
theorem wpAnyH_strong (hS : ∀ w, S' w → S w) : ∀ (fuel : Nat) (listed : Array Bool) (a : Act) (w : World), wpAnyH P md ops Q S' fuel listed a w → wpAnyH P md ops Q S fuel listed a w
  | 0, _, _, _, h => h
  | fuel + 1, _, _, _, h => ⟨h.1, fun i hi => wpOp_mono (fun a' w' h' => ⟨hS _ h'.1, wpAnyH_strong hS fuel _ a' w' h'.2⟩) (h.2 i hi)⟩
end
end Go.Proofs.YtlobnbbndkhcbaaGreatDoor

/- What a law on ranges over functions asks of an invariant: that it abides the turn of blocks that are no cells. In the words of Mem. -/
namespace Go.Proofs.YtlobnbbndkhcbaaGreatDoor
set_option linter.unusedVariables false
open Go.RowKit

/-- An append whose run is known, in a fence. -/
theorem wpListIn_append_run {F : Fence} {n : Nat} {P : Program} {w : World} {ops : Array Oper} {rest : List Oper} {o : Oper} {a : Act} {Q : Exit → Act → World → Prop} (hgd : o.guard = none) (s x : Operand) (t : TypeId)
    (ho : o.op = .call { callee := .builtin .append, args := #[s, x], argTypes := #[t, t] }) {v u v' : Value} {w' : World} (hs : a.eval s = v) (hx : a.eval x = u)
    (hr : (Builtin.append_ #[t, t] o.type #[v, u]).run P w = .ok v' w') (h : wpListIn F n P ops Q rest (a.put o.dst v') w') : wpListIn F n P ops Q (o :: rest) a w := by
  refine wpListIn_plain hgd fun K hK => ?_
  unfold Oper.wpIn
  refine ⟨by simp [Oper.about, ho, resolve, Target.leads, Sem.run_pure], ?_⟩
  rw [Oper.semAt_plain F _ _ (by rw [ho]; intro c hc'; cases hc')]
  simp [execOp, ho, resolve, invoke, builtin, hs, hx, hr, Result.andThen]
  exact hK _ _ h
/-- What may turn between two rounds. -/
abbrev Turns (B : Nat) (W : World) (row : Option Nat) : Prop := ∀ r, row = some r → B ≤ r ∧ ∃ o : Obj, W.heap[r]? = some o ∧ o.isCells = false
theorem Turns.cells {B g : Nat} {W : World} {row : Option Nat} {cs : Array Value} {t : TypeId} {f : Nat × Nat} (h : Turns B W row) (hg : W.heap[g]? = some (.cells cs t f)) : some g ≠ row := fun e => by
  obtain ⟨_, o, h1, h2⟩ := h g e.symm
  rw [hg] at h1
  cases h1
  simp [Obj.isCells] at h2
theorem own_fr {w W W' : World} {row : Option Nat} {B : Nat} (hB : w.heap.size ≤ B) (h : Fr No w W) (hg : W.grownBy W' row) (hr : Turns B W row) : Fr No w W' :=
  ⟨hg.os.trans h.os, hg.tape.trans h.tape, hg.output.trans h.output, Nat.le_trans h.size hg.size, fun k hk hn =>
    (hg.block k (Nat.lt_of_lt_of_le hk h.size) (fun e => by have := (hr k e.symm).1; omega)).trans (h.block k hk hn)⟩
theorem own_at {W W' : World} {row : Option Nat} {B g : Nat} {t : TypeId} {cs : Array Value} (h : At W g t cs) (hg : W.grownBy W' row) (hr : Turns B W row) : At W' g t cs := (hg.block g h.lt (hr.cells h)).trans h
theorem own_row {W W' : World} {S : Nat → Prop} {row : Option Nat} {B : Nat} {v : Value} {l : List UInt8} (h : Row W S v l) (hg : W.grownBy W' row) (hr : Turns B W row) : Row W' S v l := by
  obtain ⟨⟨h1, h2⟩, h3⟩ := h
  refine ⟨⟨h1, ?_⟩, h3⟩
  rcases h2 with h2 | ⟨g, cap, cur, rfl, hb, hgc, rest⟩
  · exact .inl h2
  · exact .inr ⟨g, cap, cur, rfl, hb, (hg.block g (Array.getElem?_eq_some_iff.1 hgc).1 (hr.cells hgc)).trans hgc, rest⟩
/-- The set of a value's own block. -/
abbrev Own1 (v : Value) : Nat → Prop := fun k => v.ownBlock = some k
theorem Row.own {w : World} {S : Nat → Prop} {v : Value} {l : List UInt8} (h : Row w S v l) : Row w (Own1 v) v l := ⟨h.1, fun _ hk => hk⟩
end Go.Proofs.YtlobnbbndkhcbaaGreatDoor

/- A region that draws its order, in a round of a range over a function: the laws of the plain walk ('wpAnyH': loads first) serve there too, at the wide fence. Over any program. -/
namespace Go.Proofs.YtlobnbbndkhcbaaGreatDoor
set_option linter.unusedVariables false
open Go.RowKit

def Region.calm (ops : Array Oper) : Bool := ops.all fun o => match o.op with
  | .defer _ => false
  | .select _ _ => false
  | _ => true
theorem rows_round {l n : Nat} {P : Program} {row : String} {args : Array Value} {w : World} {R : Value → World → Prop} (h : Rows P row args w R) : RowsIn (Fence.wide.inRound l) n P row args w R := fun c cs _ => by
  obtain ⟨v, w', r, s⟩ := h c cs
  exact ⟨v, w', r, stepsIn_wide.2 s⟩
theorem calls_round {l n : Nat} {P : Program} {f : FuncId} {args : Array Value} {w : World} {R : Ending → World → Prop} (h : Calls P f args w R) : CallsIn (Fence.wide.inRound l) n P f args w R :=
  CallsIn.inRound l (callsIn_wide.2 h)
theorem asks_no {P : Program} {o : Oper} {a : Act} {w : World} (ho : ∀ cs b, o.op ≠ .select cs b) (Q : Exit → Act → World → Prop) (hQ : ¬ LetsOut Q) : ¬ (o.asks P a w ∧ LetsOut Q) := fun h => hQ h.2
theorem wpOp_round {l n : Nat} {P : Program} {ops : Array Oper} {Q : Exit → Act → World → Prop} {i : Nat} {K : Act → World → Prop} {a : Act} {w : World} (hc : Region.calm ops = true) (hQ : ¬ LetsOut Q)
    (h : wpOp P ops Q i K a w) : wpOpIn (Fence.wide.inRound l) n P ops Q i K a w := by
  unfold wpOp at h
  unfold wpOpIn
  cases ho : ops[i]? with
  | none =>
    rw [ho] at h
    exact h
  | some o =>
    rw [ho] at h
    have hno : ∀ c, o.op ≠ .defer c := fun c e => by
      have h1 := Array.all_eq_true'.1 hc o (Array.mem_of_getElem? ho)
      rw [e] at h1
      cases h1
    simp only at h ⊢
    split
    · rename_i hw
      rw [if_pos hw] at h
      rcases h with h | h
      · refine ⟨fun _ _ => trivial, ?_⟩
        rw [Oper.semAt_eq _ _ _ hno]
        unfold Oper.wp at h
        generalize (execOp a.eval o).run P w = r at *
        cases r with
        | ok x w' =>
          cases x <;> simp only [Oper.upon, Oper.uponIn] at h ⊢ <;>
            first
              | exact h
              | exact ⟨fun hd => by simp [Fence.wide] at hd, calls_round h⟩
              | exact ⟨fun hd => by simp [Fence.wide] at hd, rows_round h⟩
        | halt x w' => cases x <;> simp only [Oper.upon, Oper.uponIn] at h ⊢ <;> exact h
      · exact absurd h.2 hQ
    · rename_i hw
      rw [if_neg hw] at h
      exact ⟨fun _ _ => trivial, h⟩
theorem wpAny_round {l n : Nat} {P : Program} {md : Region.Mode} {ops : Array Oper} {Q : Exit → Act → World → Prop} (hc : Region.calm ops = true) (hQ : ¬ LetsOut Q) : ∀ (fuel : Nat) (listed : Array Bool) (a : Act) (w : World),
    wpAny P md ops Q fuel listed a w → wpAnyIn (Fence.wide.inRound l) n P md ops Q fuel listed a w
  | 0, _, _, _, h => h
  | fuel + 1, _, _, _, h => ⟨h.1, fun i hi => wpOpIn_mono (fun a' w' h' => wpAny_round hc hQ fuel _ a' w' h') (wpOp_round hc hQ (h.2 i hi))⟩
/-- A REGION THAT DRAWS ITS ORDER, in a round: S is shown of the world behind the draw, and handed on. -/
theorem wpIn_region_round {l n id : Nat} {P : Program} {ops : Array Oper} {Q : Exit → Act → World → Prop} {S : World → Prop} {a : Act} {w : World} (hm : P.follows .mixedOrders = true) (hc : Region.calm ops = true) (hQ : ¬ LetsOut Q) (hS : S w.drew)
    (h : S w.drew → wpAnyH P .any ops Q S ops.size (Array.replicate ops.size false) a w.drew) : (Code.region id ops true).wpIn (Fence.wide.inRound l) n P Q a w :=
  wpIn_region_any hm (wpAny_round hc hQ _ _ _ _ (wpAny_of_held _ _ _ _ (h hS)))
end Go.Proofs.YtlobnbbndkhcbaaGreatDoor

/- What a law on ranges over functions asks of an invariant, in the words of MemI: rows of integers. -/
namespace Go.Proofs.YtlobnbbndkhcbaaGreatDoor
set_option linter.unusedVariables false
open Go.RowKit

theorem own_rowI {W W' : World} {S : Nat → Prop} {row : Option Nat} {B : Nat} {v : Value} {l : List Int} (h : RowI W S v l) (hg : W.grownBy W' row) (hr : Turns B W row) : RowI W' S v l := by
  obtain ⟨⟨h1, h2⟩, h3⟩ := h
  refine ⟨⟨h1, ?_⟩, h3⟩
  rcases h2 with h2 | ⟨g, cap, cur, rfl, hb, hgc, rest⟩
  · exact .inl h2
  · exact .inr ⟨g, cap, cur, rfl, hb, (hg.block g (Array.getElem?_eq_some_iff.1 hgc).1 (hr.cells hgc)).trans hgc, rest⟩
theorem RowI.own {w : World} {S : Nat → Prop} {v : Value} {l : List Int} (h : RowI w S v l) : RowI w (Own1 v) v l := ⟨h.1, fun _ hk => hk⟩
/-- What a row's own block turns keeps whatever is no cells. -/
theorem RowI.others {W W' : World} {S : Nat → Prop} {v : Value} {l : List Int} (h : RowI W S v l) (f : Fr (Own1 v) W W') : KeepsOthers W W' := by
  refine ⟨f.size, fun k o hk ho => ?_⟩
  have hlt : k < W.heap.size := (Array.getElem?_eq_some_iff.1 hk).1
  refine (f.block k hlt fun hv => ?_).trans hk
  rcases h.1.2 with ⟨rfl, _⟩ | ⟨g, cap, cur, rfl, _, hg, _⟩
  · have hv : (none : Option Nat) = some k := hv
    cases hv
  · have hv : some g = some k := hv
    cases hv
    rw [hg] at hk
    cases hk
    simp [Obj.isCells] at ho
end Go.Proofs.YtlobnbbndkhcbaaGreatDoor
