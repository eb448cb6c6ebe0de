/-
  Layer 5: the document's list beside the nodes: what is found, above, below; Put of both; 'found'; a number appended to numbers that came in.
-/
import Derived.Test.YtdnaebbfbkdjoaaSkY
import Derived.Test.YtdnaebbfbkdjoaaSkU
import Derived.Test.YtdnaebbfbkdjoaaSkR
import Derived.Test.YtdnaebbfbkdjoaaOpenL
import Derived.Laws.Append
import Derived.ArgAppend
import Derived.Deep.RegionHeld3
namespace Go.Proofs.Ytdnaebbfbkdjoaa
set_option linter.unusedVariables false
open Go.RowKit

namespace KI
/-- The place of a node (-1: none). -/
def Here (ns : List N2) (o : Option N2) (t : Int) : Prop := (o = none ∧ t = -1) ∨ ∃ j, ∃ h : j < ns.length, t = (j : Int) ∧ o = some ns[j]
theorem here_of {ns : List N2} (hs : Sorted ltI ns) {o : Option N2} (ho : ∀ y, o = some y → y ∈ ns) {t : Int} (h : (t = -1 ∧ o.map prOf = none) ∨ ∃ j, j < ns.length ∧ t = (j : Int) ∧ o.map prOf = some ((ns.map prOf).getD j pr0)) : Here ns o t := by
  rcases h with ⟨h1, h2⟩ | ⟨j, hj, h1, h2⟩
  · left
    cases o with
    | none => exact ⟨rfl, h1⟩
    | some y => cases h2
  · right
    cases o with
    | none => cases h2
    | some y =>
      rw [getD_map_prOf ns j hj] at h2
      have e : prOf y = prOf ns[j] := Option.some.inj h2
      have e : y.k = (ns[j]).k := congrArg Pr.k e
      exact ⟨j, hj, h1, by rw [sorted_key ordI hs (ho y rfl) (List.getElem_mem hj) e]⟩
theorem here_first_at {ns : List N2} (hs : Sorted ltI ns) (p : Pr → Bool) (q : N2 → Bool) (e : ∀ x ∈ ns, p (prOf x) = q x) : Here ns (ns.find? q) (firstAt p (ns.map prOf) 0) := by
  have hq : ns.find? (fun x => p (prOf x)) = ns.find? q := find_congr' e
  refine here_of hs (fun y hy => List.mem_of_find?_eq_some hy) ?_
  rw [← hq, ← find_map]
  rcases firstAt_find p (ns.map prOf) 0 with ⟨h1, h2⟩ | ⟨j, hj, h1, h2⟩
  · exact .inl ⟨h1, h2⟩
  · exact .inr ⟨j, by simpa using hj, by simpa using h1, h2⟩
theorem here_last_to {ns : List N2} (hs : Sorted ltI ns) (p : Pr → Bool) (q : N2 → Bool) (e : ∀ x ∈ ns, p (prOf x) = q x) : Here ns (lastN q ns) (lastTo p (ns.map prOf) (ns.map prOf).length) := by
  have hq : lastN (fun x => p (prOf x)) ns = lastN q ns := lastN_congr e
  refine here_of hs (fun y hy => (lastN_mem hy).1) ?_
  rw [← hq, ← lastP_map]
  rcases lastTo_last p (ns.map prOf) _ (Nat.le_refl _) with ⟨h1, h2⟩ | ⟨j, hj, h1, h2⟩
  · rw [List.take_length] at h2
    exact .inl ⟨h1, h2⟩
  · rw [List.take_length] at h2
    exact .inr ⟨j, by simpa using hj, h1, h2⟩
theorem here_find {ns : List N2} (hs : Sorted ltI ns) (k : Int) : Here ns (getN ns k) (findI (ns.map prOf) k) :=
  here_first_at hs _ _ fun x _ => by
    show (x.k == k) = decide (x.k = k)
    exact beqI _ _
theorem here_ceil {ns : List N2} (hs : Sorted ltI ns) (k : Int) : Here ns (ceilN ltI ns k) (aboveI (ns.map prOf) k true) :=
  here_first_at hs _ _ fun x _ => by
    show (decide (k < x.k) || (true && x.k == k)) = !decide (x.k < k)
    rw [beqI, Bool.true_and]
    by_cases h1 : k < x.k <;> by_cases h2 : x.k = k <;> by_cases h3 : x.k < k <;> simp [h1, h2, h3] <;> omega
theorem here_next {ns : List N2} (hs : Sorted ltI ns) (k : Int) : Here ns (nextN ltI ns k) (aboveI (ns.map prOf) k false) :=
  here_first_at hs _ _ fun x _ => by
    show (decide (k < x.k) || (false && x.k == k)) = decide (k < x.k)
    rw [Bool.false_and, Bool.or_false]
theorem here_floor {ns : List N2} (hs : Sorted ltI ns) (k : Int) : Here ns (floorN ltI ns k) (belowI (ns.map prOf) k true) :=
  here_last_to hs _ _ fun x _ => by
    show (decide (x.k < k) || (true && x.k == k)) = !decide (k < x.k)
    rw [beqI, Bool.true_and]
    by_cases h1 : k < x.k <;> by_cases h2 : x.k = k <;> by_cases h3 : x.k < k <;> simp [h1, h2, h3] <;> omega
theorem here_prev {ns : List N2} (hs : Sorted ltI ns) (k : Int) : Here ns (prevN ltI ns k) (belowI (ns.map prOf) k false) :=
  here_last_to hs _ _ fun x _ => by
    show (decide (x.k < k) || (false && x.k == k)) = decide (x.k < k)
    rw [Bool.false_and, Bool.or_false]
theorem here_head (ns : List N2) : Here ns ns.head? (min 0 ((ns.length : Int) - 1)) := by
  cases ns with
  | nil => exact .inl ⟨rfl, rfl⟩
  | cons x xs => exact .inr ⟨0, by simp, by simp; omega, rfl⟩
theorem here_last (ns : List N2) : Here ns ns.getLast? ((ns.length : Int) - 1) := by
  cases h : ns.length with
  | zero => exact .inl ⟨by rw [List.eq_nil_of_length_eq_zero h]; rfl, rfl⟩
  | succ n =>
    have e : ns.getLast? = ns[n]? := by rw [last_back, h]; rfl
    exact .inr ⟨n, by omega, by omega, e.trans (List.getElem?_eq_getElem (by omega))⟩
set_option maxRecDepth 20000 in
theorem found_c (X : Nat → Prop) (b : Nat) {ns : List N2} {o : Option N2} {t : Int} (h : Here ns o t) (w : World) (hr : RL w X b (ns.map prOf)) :
    Calls Try.prog 21 #[kV o, vV o, okV o, .pointer (some ⟨b, 0, none⟩), .int .i64 t] w fun e w' => e = .returned (.bool true) ∧ w = w' := by
  rcases h with ⟨rfl, rfl⟩ | ⟨j, hj, rfl, rfl⟩
  · exact found_no b (-1) (by omega) w
  · have := found_yes X b (ns.map prOf) j (by simpa using hj) w hr
    rw [getD_map_prOf ns j hj] at this
    exact this
/-- WHAT BOTH PUTS TELL AND DO. -/
theorem puts_ref {w : World} {b hb hs : Nat} {ns ns' : List N2} (L : SkL w b hb hs ns) {k v h : Int} {e : Ending} (hg : ¬ (h < 1 ∨ 12 < h)) (hp : PutS ns k v h e ns') :
    e = .returned (.tuple #[.bool (freshL (ns.map prOf) k), .int .i64 0]) ∧ putL (ns.map prOf) ⟨k, v, h⟩ = ns'.map prOf := by
  rcases hp with ⟨h1, _⟩ | ⟨_, x, hx, hk, he, rfl⟩ | ⟨_, hn, nd, hk, hv, hh, he, rfl⟩
  · exact absurd h1 hg
  · obtain ⟨h1, h2⟩ := put_again L.srt (fun y hy z hz e => L.inj y hy z hz (.inl e)) hx v h
    rw [hk] at h1 h2
    exact ⟨by rw [he, h1], h2⟩
  · obtain ⟨h1, h2⟩ := put_new nd (ns := ns) (fun x hx => by rw [hk]; exact hn x hx)
    rw [hk] at h1
    have e2 : prOf nd = ⟨k, v, h⟩ := by unfold prOf; rw [hk, hv, hh]
    rw [e2] at h2
    exact ⟨by rw [he, h1], h2⟩
end KI

/-- What stands in a cell, taken apart as a slice. -/
def lstA (w : World) (g : Nat) : Option Addr := match w.cell? ⟨g, 0, none⟩ with
  | some (.slice a _ _) => a
  | _ => none
def lstN (w : World) (g : Nat) : Nat := match w.cell? ⟨g, 0, none⟩ with
  | some (.slice _ n _) => n
  | _ => 0
def lstC (w : World) (g : Nat) : Nat := match w.cell? ⟨g, 0, none⟩ with
  | some (.slice _ _ c) => c
  | _ => 0
theorem lst_cell {w : World} {g : Nat} {a : Option Addr} {n c : Nat} (h : w.cell? ⟨g, 0, none⟩ = some (.slice a n c)) : w.cell? ⟨g, 0, none⟩ = some (.slice (lstA w g) (lstN w g) (lstC w g)) ∧ lstN w g = n := by
  unfold lstA lstN lstC
  rw [h]
  exact ⟨rfl, rfl⟩
theorem step_append_run {P : Program} {w w' : World} {ops : Array Oper} {o : Oper} {a : Act} {K : Act → World → Prop} {Q : Exit → Act → World → Prop} {E : Prop} (hgd : o.guard = none) (s x : Operand) (t : TypeId)
    (ho : o.op = .call { callee := .builtin .append, args := #[s, x], argTypes := #[t, t] }) {v u v' : Value} (hs : a.eval s = v) (hx : a.eval x = u)
    (hr : (Builtin.append_ #[t, t] o.type #[v, u]).run P w = .ok v' w') (h : K (a.put o.dst v') w') : if Region.wanted o (yielded ops a.tmps) = true then Oper.wp P o a w K Q else E := by
  have hw : Region.wanted o (yielded ops a.tmps) = true := by simp [Region.wanted, hgd]
  rw [if_pos hw]
  unfold Oper.wp execOp
  simp only [ho, resolve, invoke, builtin, Sem.run_bind, Sem.run_pure, Result.andThen_ok, List.map_toArray, List.map_cons, List.map_nil, hs, hx, hr]
  exact h
theorem cut_full (a : Option Addr) (s c : Nat) (h : s ≤ c) (w : World) :
    (Instr.slice 23 (.slice a s c) none (some (.int .i64 (s : Int))) (some (.int .i64 (s : Int)))).run Try.prog w = .ok (.slice a s s) w := by
  have he : Try.prog.elem 23 = 3 := by simp [Program.elem, Try.underlying23]
  have ht' : Try.prog.underlying 23 = some (.slice (Try.prog.elem 23)) := by rw [he]; exact Try.underlying23
  obtain ⟨i0, hi, hz0, hz1, hz2⟩ := info_parts KI.rowK.info
  rw [run_slice_hm w 23 a s c ht' .i64 .i64 s s (by omega) (by omega) (by omega), he, size_one cellsInt ⟨i0, hi, hz1⟩]
  simp [Result.andThen, sliced]
  cases a with
  | none => simp
  | some x => simp [Addr.add]
/-- A NUMBER APPENDED to numbers with no room behind them: a new row. -/
theorem push_ints (w : World) (a : Option Addr) (l : List Int) (h : Ints w a l) (hl : l.length ≤ 1000) (x : Int) (wx : (Lit.int .i64 x).wf = true) :
    ∃ a' c' w', (Builtin.append_ #[23, 23] 23 #[.slice a l.length l.length, .slice (some ⟨w.heap.size, 0, none⟩) 1 1]).run Try.prog (w.alloc (.cells #[.int .i64 x] 3)) = .ok (.slice a' (l.length + 1) c') w' ∧
      Ints w' a' (l ++ [x]) ∧ l.length + 1 ≤ c' ∧ c' ≤ maxLen ∧ Fr No w w' := by
  obtain ⟨i0, hi, hz0, hz1, hz2⟩ := info_parts KI.rowK.info
  have f := (Fr.refl No w).alloc (.cells #[.int .i64 x] 3)
  have h' := h.keep f
  have hsrc : ∀ (j : Nat) (u : Value), [Value.int .i64 x][j]? = some u → (w.alloc (.cells #[.int .i64 x] 3)).cell? ((⟨w.heap.size, 0, none⟩ : Addr).add j) = some u := fun j u hu => by
    rw [add_at, Nat.zero_add, cell_of_row _ _ j _ 3 (0, 0) (heap_alloc_new w _)]
    simpa using hu
  -- what the new row reads
  have fin : ∀ (g c : Nat) (cur : Array Value) (w' : World), w'.heap[g]? = some (.cells cur 3 (0, 0)) → cur.toList.take (l.length + 1) = (l ++ [x]).map (Value.int .i64) → Ints w' (some ⟨g, 0, none⟩) (l ++ [x]) := fun g c cur w' hg ht _ => by
    refine ⟨g, 0, rfl, fun i y hy => ?_⟩
    have hi' : i < l.length + 1 := by
      rcases Nat.lt_or_ge i (l.length + 1) with h1 | h1
      · exact h1
      · rw [List.getElem?_eq_none (by simp; omega)] at hy; cases hy
    refine ⟨?_, ?_⟩
    · rw [Nat.zero_add, cell_of_row w' g i cur _ (0, 0) hg, ← Array.getElem?_toList]
      have e : (cur.toList.take (l.length + 1))[i]? = cur.toList[i]? := by rw [List.getElem?_take, if_pos hi']
      rw [← e, ht, List.getElem?_map, hy]
      rfl
    · rcases Nat.lt_or_ge i l.length with h1 | h1
      · rw [List.getElem?_append_left h1] at hy
        obtain ⟨_, _, _, hx⟩ := h (by omega)
        exact (hx i y hy).2
      · rw [List.getElem?_append_right h1, show i - l.length = 0 by omega] at hy
        have : x = y := by simpa using hy
        rw [← this]
        exact wx
  cases a with
  | none =>
    have hl0 : l.length = 0 := by
      rcases Nat.eq_zero_or_pos l.length with h0 | h0
      · exact h0
      · obtain ⟨_, _, e, _⟩ := h h0
        cases e
    have hr := run_append_nil (P := Try.prog) (w.alloc (.cells #[.int .i64 x] 3)) 23 23 3 i0 (.int .i64 0) Try.underlying23 hi hz0 ⟨w.heap.size, 0, none⟩ 1 1 [.int .i64 x] (by rw [hz1]; rfl) hsrc (by omega) (by omega) (by rw [hz2]; omega)
    rw [hl0]
    refine ⟨_, _, _, hr, ?_, ?_, ?_, ?_⟩
    · refine fin _ 0 _ _ (heap_alloc_new _ _) ?_
      rw [List.eq_nil_of_length_eq_zero hl0]
      simp
    · exact grownCap_ge _ _ _ _
    · exact grownCap_le_maxLen _ _ _ _ (by unfold maxLen; omega)
    · exact (f.drew).alloc _
  | some b =>
    obtain ⟨v', w', hrun, hown, hgr⟩ := run_append_arg_grows (P := Try.prog) (w.alloc (.cells #[.int .i64 x] 3)) 23 23 3 i0 (.int .i64 0) 1 8 Try.underlying23 hi hz0 hz1 hz2 rfl (by omega) b l.length l.length (l.map (Value.int .i64)) (by simp) (fun j u hu => by
      rw [List.getElem?_map] at hu
      cases e : l[j]? with
      | none => rw [e] at hu; cases hu
      | some y =>
        rw [e] at hu
        obtain rfl : Value.int .i64 y = u := by simpa using hu
        have hj : 0 < l.length := by
          rcases Nat.eq_zero_or_pos l.length with h0 | h0
          · rw [List.eq_nil_of_length_eq_zero h0] at e; cases e
          · exact h0
        obtain ⟨g, o, e2, hx⟩ := h' hj
        obtain rfl : b = ⟨g, o, none⟩ := Option.some.inj e2
        rw [add_at]
        exact (hx j y e).1) ⟨w.heap.size, 0, none⟩ 1 1 [.int .i64 x] rfl hsrc (by omega) (by unfold maxLen; omega) (by omega)
    have hf := Fr.grown (S := No) hgr (fun k hk => by cases hk)
    rcases hown.2 with ⟨_, h0⟩ | ⟨g, c, cur, rfl, _, hg, hn, hm, _, ht⟩
    · omega
    · refine ⟨some ⟨g, 0, none⟩, c, w', hrun, fin g c cur w' hg ?_, hn, hm, f.trans hf⟩
      rw [Nat.mul_one] at ht
      rw [ht]
      simp
end Go.Proofs.Ytdnaebbfbkdjoaa
