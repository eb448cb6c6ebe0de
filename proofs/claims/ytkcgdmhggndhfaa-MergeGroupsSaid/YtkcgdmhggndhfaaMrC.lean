/-
  Layer 6, the program's own: pairs appended to a row; two runs as one (twoAsOne); a run copied (slices.Clone).
-/
import Derived.Test.YtkcgdmhggndhfaaMrB
namespace Go.Proofs.Ytkcgdmhggndhfaa
set_option linter.unusedVariables false
open Go.RowKit

/-! ### Appends. -/
theorem InP.cells {w : World} {S : Nat → Prop} {a : Option Addr} {l : List P2} (h : InP w S a l) (hl : 0 < l.length) : ∃ ad, a = some ad ∧ ∀ j u, (p2sC l)[j]? = some u → w.cell? (ad.add j) = some u := by
  obtain ⟨b, o, _, rfl, hc⟩ := h hl
  refine ⟨_, rfl, fun j u hj => ?_⟩
  have hlen : j < l.length * 2 := by
    rcases Nat.lt_or_ge j (l.length * 2) with h1 | h1
    · exact h1
    · rw [List.getElem?_eq_none (by rw [p2sC_length]; exact h1)] at hj; cases hj
  rw [add_at]
  obtain ⟨g0, g1⟩ := p2sC_get l (j / 2) (by omega)
  obtain ⟨c0, c1⟩ := hc (j / 2) (by omega)
  rcases Nat.mod_two_eq_zero_or_one j with h2 | h2
  · rw [show j / 2 * 2 = j by omega] at g0 c0
    rw [c0, ← g0, hj]
  · rw [show j / 2 * 2 + 1 = j by omega] at g1
    rw [show o + j / 2 * 2 + 1 = o + j by omega] at c1
    rw [c1, ← g1, hj]
theorem run_append_zero {P : Program} {t e : TypeId} {z : Value} {k b : Nat} (hT : RowT P t e z k b) (w : World) (base : Option Addr) (n cap : Nat) (h : n ≤ cap) (a : Option Addr) (c : Nat) :
    (Builtin.append_ #[t, t] t #[.slice base n cap, .slice a 0 c]).run P w = .ok (.slice base n cap) w := by
  obtain ⟨i0, hi, hz0, hz1, hz2⟩ := info_parts hT.info
  cases a <;> cases base <;> simp [Builtin.append_, run_underlying hT.und, sizeOf, typeInfo, hi, Builtin.lenOf, Builtin.firstCells, loadCells, loadCellsFrom, storeCells, h]
theorem one_p2sC (l : List P2) : ∀ u ∈ p2sC l, u.oneCell' = true := by
  intro u hu
  unfold p2sC at hu
  obtain ⟨p, _, hp⟩ := List.mem_flatMap.1 hu
  simp [p2C] at hp
  rcases hp with rfl | rfl <;> rfl
/-- APPEND OF PAIRS to a row of the call's own. -/
theorem RowG.pairs_append {P : Program} {t e : TypeId} {z : Value} (hT : RowT P t e z 2 16) {w : World} {S T : Nat → Prop} {v : Value} {o l : List P2} {a : Option Addr} {c : Nat} (h : RowG w S e 2 v o.length (p2sC o)) (hS : ∀ x, S x → x < w.heap.size) (hr : InP w T a l) (hn : o.length + l.length ≤ 1000000) :
    ∃ v' w', (Builtin.append_ #[t, t] t #[v, .slice a l.length c]).run P w = .ok v' w' ∧ RowG w' (Gr S w w') e 2 v' (o ++ l).length (p2sC (o ++ l)) ∧ Fr S w w' := by
  rcases Nat.eq_zero_or_pos l.length with h0 | h0
  · have hl : l = [] := List.eq_nil_of_length_eq_zero h0
    subst hl
    obtain ⟨ba, cap, rfl, h1, _⟩ := h.form
    refine ⟨_, w, run_append_zero hT w ba o.length cap h1 a c, ?_, Fr.refl S w⟩
    rw [List.append_nil]
    exact h.sub fun x _ hx => .inl hx
  · obtain ⟨i0, hi, hz0, hz1, hz2⟩ := info_parts hT.info
    obtain ⟨ad, rfl, hcells⟩ := hr.cells h0
    obtain ⟨v', w', hrun, h2, h3, _, h5⟩ := run_append_own_at (P := P) w 0 t t e i0 z 2 16 hT.und hi hz0 hz1 hz2 hT.zc hT.pos v o.length (p2sC o) h.1
      ad l.length c (p2sC l) (p2sC_length l) hcells (one_p2sC l) (by unfold maxLen; omega) (by omega) (Nat.zero_le _)
    have hf3 := Fr.grown h3 h.2
    refine ⟨v', w', hrun, ⟨?_, fun x hx => ?_⟩, hf3⟩
    · rw [List.length_append, p2sC_append]
      exact h2
    · rcases h5 with h5 | h5
      · exact .inl (h.2 x (h5 ▸ hx))
      · rw [h5] at hx
        have hk : w.heap.size = x := Option.some.inj hx
        have h6 := (h2.lt x (by rw [h5, hk])).2
        exact .inr ⟨by omega, h6⟩
/-- .. to a row of the call's own (all that is new since W0). -/
theorem append_pairs {P : Program} {t e : TypeId} {z : Value} (hT : RowT P t e z 2 16) (W0 wr : World) (vo : Value) (o l : List P2) {T : Nat → Prop} (a : Option Addr) (c : Nat) (hrow : RowG wr (Gr No W0 wr) e 2 vo o.length (p2sC o)) (hfr : Fr No W0 wr) (hr : InP wr T a l) (hn : o.length + l.length ≤ 1000000) :
    ∃ v' w', (Builtin.append_ #[t, t] t #[vo, .slice a l.length c]).run P wr = .ok v' w' ∧ RowG w' (Gr No W0 w') e 2 v' (o ++ l).length (p2sC (o ++ l)) ∧ Fr No W0 w' := by
  obtain ⟨v', w', h1, h2, h3⟩ := hrow.pairs_append hT (fun q hq => hq.elim (fun h => h.elim) (fun h => h.2)) (c := c) hr hn
  exact ⟨v', w', h1, h2.join hfr.size h3.size, hfr.then_ h3 fun q hq h => h.elim (fun h => h) (fun h => absurd hq (by omega))⟩
/-- A row of no pairs, made with room for c. -/
theorem make_pairs (w : World) (c : Nat) (hc : c ≤ 1000000) : ∃ v w', (Instr.makeSlice 27 (.int .i64 0) (.int .i64 (c : Int))).run Try.prog w = .ok v w' ∧ RowG w' (Gr No w w') 49 2 v 0 [] ∧ Fr No w w' := by
  obtain ⟨i0, hi, hz0, hz1, hz2⟩ := info_parts rowMI.info
  have hr := run_make (P := Try.prog) w 27 49 i0 (.agg #[.int .i64 0, .int .i64 0]) Try.underlying27 hi hz0 .i64 .i64 0 c (by omega) (by omega) (by rw [hz2]; omega) (by omega)
  rw [hz1] at hr
  refine ⟨_, _, hr, ⟨⟨rfl, .inr ⟨w.heap.size, c, _, rfl, Nat.zero_le _, heap_alloc_new w _, Nat.zero_le _, by unfold maxLen; omega, ?_, rfl⟩⟩, ?_⟩, (Fr.refl No w).alloc _⟩
  · simp [size_madeCells]
  · intro b hb
    have hb : w.heap.size = b := by simpa [Value.ownBlock] using hb
    exact .inr ⟨by omega, by simp; omega⟩
/-- The row of no pairs that '[]T{}' lays. -/
theorem RowG.empty (w : World) (e : TypeId) (k : Nat) : RowG (w.alloc (.cells #[] e)) (Gr No w (w.alloc (.cells #[] e))) e k (.slice (some ⟨w.heap.size, 0, none⟩) 0 0) 0 [] :=
  ⟨⟨by simp, .inr ⟨w.heap.size, 0, #[], rfl, Nat.zero_le _, heap_alloc_new w _, Nat.le_refl _, by unfold maxLen; omega, by simp, by simp⟩⟩, fun b hb => by
    have hb : w.heap.size = b := by simpa [Value.ownBlock] using hb
    exact .inr ⟨by omega, by simp; omega⟩⟩
/-- What is behind the first pair. -/
theorem InP.tail {w : World} {S : Nat → Prop} {a : Option Addr} {x : P2} {xs : List P2} {c : Nat} (h : InP w S a (x :: xs)) (hc : xs.length + 1 ≤ c) :
    ∃ a', (∀ W, (Instr.slice 27 (.slice a (xs.length + 1) c) (some (.int .i64 1)) none none).run Try.prog W = .ok (.slice a' xs.length (c - 1)) W) ∧ InP w S a' xs := by
  have he : Try.prog.elem 27 = 49 := by simp [Program.elem, Try.underlying27]
  have ht' : Try.prog.underlying 27 = some (.slice (Try.prog.elem 27)) := by rw [he]; exact Try.underlying27
  obtain ⟨i0, hi, hz0, hz1, hz2⟩ := info_parts rowMI.info
  obtain ⟨b, o, hb, rfl, hcell⟩ := h (by simp)
  refine ⟨if c = 1 then some ⟨b, o, none⟩ else some ⟨b, o + 2, none⟩, fun W => ?_, fun hl => ?_⟩
  · rw [run_slice_l W 27 (some ⟨b, o, none⟩) (xs.length + 1) c ht' .i64 1 (by omega) (by omega), he]
    simp [sizeOf, typeInfo, hi, hz1, Result.andThen, sliced, add_at]
  · refine ⟨b, o + 2, hb, ?_, fun i hi => ?_⟩
    · rw [if_neg (by omega)]
    · have := hcell (i + 1) (by simp; omega)
      rw [show o + (i + 1) * 2 = o + 2 + i * 2 by omega] at this
      exact this

/-! ### Two runs as one. -/
def mgIn (x : P2) (rest : List P2 → List P2) : List P2 → List P2
  | [] => x :: rest []
  | y :: ys => if x.1 < y.1 then x :: rest (y :: ys) else if y.1 < x.1 then y :: mgIn x rest ys else mgIn x rest ys
def mg2 : List P2 → List P2 → List P2
  | [] => fun m => m
  | x :: xs => mgIn x (mg2 xs)
theorem mg2_lt {x y : P2} {xs ys : List P2} (h : x.1 < y.1) : mg2 (x :: xs) (y :: ys) = x :: mg2 xs (y :: ys) := by
  show (if x.1 < y.1 then _ else _) = _
  rw [if_pos h]
theorem mg2_gt {x y : P2} {xs ys : List P2} (h : y.1 < x.1) : mg2 (x :: xs) (y :: ys) = y :: mg2 (x :: xs) ys := by
  show (if x.1 < y.1 then _ else if y.1 < x.1 then _ else _) = _
  rw [if_neg (by omega), if_pos h]
  rfl
theorem mg2_eq {x y : P2} {xs ys : List P2} (h : x.1 = y.1) : mg2 (x :: xs) (y :: ys) = mg2 (x :: xs) ys := by
  show (if x.1 < y.1 then _ else if y.1 < x.1 then _ else _) = _
  rw [if_neg (by omega), if_neg (by omega)]
  rfl
theorem nil_mg2 (l : List P2) : mg2 [] l = l := rfl
theorem mg2_nil : ∀ l : List P2, mg2 l [] = l
  | [] => rfl
  | x :: xs => by
    show x :: mg2 xs [] = _
    rw [mg2_nil xs]
/-- Two lists gone through side by side. -/
theorem side {p : List P2 → List P2 → Prop} (h1 : ∀ m, p [] m) (h2 : ∀ x xs, p (x :: xs) []) (h3 : ∀ x xs y ys, x.1 < y.1 → p xs (y :: ys) → p (x :: xs) (y :: ys)) (h4 : ∀ x xs y ys, y.1 < x.1 → p (x :: xs) ys → p (x :: xs) (y :: ys)) (h5 : ∀ x xs y ys, x.1 = y.1 → p (x :: xs) ys → p (x :: xs) (y :: ys)) : ∀ l m, p l m := by
  intro l
  induction l with
  | nil => exact h1
  | cons x xs ihl =>
    intro m
    induction m with
    | nil => exact h2 x xs
    | cons y ys ihm =>
      rcases Int.lt_trichotomy x.1 y.1 with h | h | h
      · exact h3 x xs y ys h (ihl (y :: ys))
      · exact h5 x xs y ys h ihm
      · exact h4 x xs y ys h ihm
theorem getP_low {z : P2} {zs : List P2} (hz : SortP (z :: zs)) {k : Int} (hk : k < z.1) : getP (z :: zs) k = none := by
  cases e : getP (z :: zs) k with
  | none => rfl
  | some v =>
    have := mem_getP e
    rcases List.mem_cons.1 this with h5 | h5
    · have : k = z.1 := congrArg Prod.fst h5
      omega
    · have := (List.pairwise_cons.1 hz).1 _ h5
      have : z.1 < k := this
      omega
theorem mg2_mem (l m : List P2) : ∀ p : P2, p ∈ mg2 l m → p ∈ l ∨ p ∈ m := by
  refine side (p := fun l m => ∀ p : P2, p ∈ mg2 l m → p ∈ l ∨ p ∈ m) (fun m p h => .inr h) (fun x xs p h => ?_) (fun x xs y ys h ih p hp => ?_) (fun x xs y ys h ih p hp => ?_) (fun x xs y ys h ih p hp => ?_) l m
  · rw [mg2_nil] at h
    exact .inl h
  · rw [mg2_lt h] at hp
    rcases List.mem_cons.1 hp with rfl | hp
    · exact .inl (List.mem_cons_self ..)
    · exact (ih p hp).elim (fun h => .inl (List.mem_cons_of_mem _ h)) .inr
  · rw [mg2_gt h] at hp
    rcases List.mem_cons.1 hp with rfl | hp
    · exact .inr (List.mem_cons_self ..)
    · exact (ih p hp).elim .inl (fun h => .inr (List.mem_cons_of_mem _ h))
  · rw [mg2_eq h] at hp
    exact (ih p hp).elim .inl (fun h => .inr (List.mem_cons_of_mem _ h))
theorem mg2_sort (l m : List P2) : SortP l → SortP m → SortP (mg2 l m) := by
  refine side (p := fun l m => SortP l → SortP m → SortP (mg2 l m)) (fun m _ h => h) (fun x xs h _ => ?_) (fun x xs y ys h ih hl hm => ?_) (fun x xs y ys h ih hl hm => ?_) (fun x xs y ys h ih hl hm => ?_) l m
  · rw [mg2_nil]
    exact h
  · rw [mg2_lt h]
    obtain ⟨h1, h2⟩ := List.pairwise_cons.1 hl
    refine List.pairwise_cons.2 ⟨fun p hp => ?_, ih h2 hm⟩
    rcases mg2_mem _ _ p hp with hp | hp
    · exact h1 p hp
    · rcases List.mem_cons.1 hp with rfl | hp
      · exact h
      · have := (List.pairwise_cons.1 hm).1 p hp
        exact Int.lt_trans h this
  · rw [mg2_gt h]
    obtain ⟨h3, h4⟩ := List.pairwise_cons.1 hm
    refine List.pairwise_cons.2 ⟨fun p hp => ?_, ih hl h4⟩
    rcases mg2_mem _ _ p hp with hp | hp
    · rcases List.mem_cons.1 hp with rfl | hp
      · exact h
      · have := (List.pairwise_cons.1 hl).1 p hp
        exact Int.lt_trans h this
    · exact h3 p hp
  · rw [mg2_eq h]
    exact ih hl (List.pairwise_cons.1 hm).2
theorem mg2_get (k : Int) (l m : List P2) : SortP l → SortP m → getP (mg2 l m) k = (getP l k).or (getP m k) := by
  refine side (p := fun l m => SortP l → SortP m → getP (mg2 l m) k = (getP l k).or (getP m k)) (fun m _ h => ?_) (fun x xs h _ => ?_) (fun x xs y ys h ih hl hm => ?_) (fun x xs y ys h ih hl hm => ?_) (fun x xs y ys h ih hl hm => ?_) l m
  · rw [nil_mg2, getP_nil, Option.none_or]
  · rw [mg2_nil, getP_nil, Option.or_none]
  · rw [mg2_lt h, getP_cons, ih (List.pairwise_cons.1 hl).2 hm, getP_cons x xs]
    by_cases e : x.1 = k
    · rw [if_pos e, if_pos e, Option.some_or]
    · rw [if_neg e, if_neg e]
  · rw [mg2_gt h, getP_cons, ih hl (List.pairwise_cons.1 hm).2, getP_cons y ys]
    by_cases e : y.1 = k
    · rw [if_pos e, if_pos e, getP_low hl (by omega), Option.none_or]
    · rw [if_neg e, if_neg e]
  · rw [mg2_eq h, ih hl (List.pairwise_cons.1 hm).2, getP_cons y ys]
    by_cases e : y.1 = k
    · rw [if_pos e, getP_cons x xs, if_pos (by omega), Option.some_or, Option.some_or]
    · rw [if_neg e]
theorem mg2_one (A B : List (List P2)) : mg2 (oneP A) (oneP B) = oneP (A ++ B) := oneP_of (mg2_sort _ _ (oneP_sort A) (oneP_sort B)) fun k => by
  rw [mg2_get k _ _ (oneP_sort A) (oneP_sort B), oneP_get, oneP_get]
  unfold firstP
  rw [List.findSome?_append]
end Go.Proofs.Ytkcgdmhggndhfaa
