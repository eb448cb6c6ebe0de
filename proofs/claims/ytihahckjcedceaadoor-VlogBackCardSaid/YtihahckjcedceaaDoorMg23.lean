/-
  Texts of layer 14 and of what it stands on, one behind the other.
-/
import Derived.Test.YtihahckjcedceaaDoorMg22
import Derived.Test.YtihahckjcedceaaDoorMg14
import Derived.Test.YtihahckjcedceaaDoorMg04
import Derived.BigQuiet

/- Layer 9: lists of records in memory; the statements' 'same' and 'small'; the document's Scan. -/
namespace Go.Proofs.YtihahckjcedceaaDoor
set_option linter.unusedVariables false
open Go.RowKit

theorem rowTx : RowT Tryd.prog 69 51 (.slice none 0 0) 1 24 := ⟨Tryd.underlying69, by kernel_rfl, rfl, by decide⟩
theorem sizeSl (w : World) : (sizeOf 51).run Tryd.prog w = .ok 1 w := by kernel_rfl
def txV (x : Tx) : Value := .slice x.a x.b.length x.c
def txC (xs : List Tx) : List Value := xs.map txV
/-- RECORDS of the call's own: their list's block, and each one's bytes in blocks from B on that are not the list's. -/
structure TxR (w : World) (B : Nat) (v : Value) (xs : List Tx) : Prop where
  row : RowG w (Own1 v) 51 1 v xs.length (txC xs)
  own : ∀ k, v.ownBlock = some k → B ≤ k
  at_ : ∀ x ∈ xs, In w (fun k => B ≤ k ∧ v.ownBlock ≠ some k) x.a x.b
theorem TxR.nil (w : World) (B : Nat) : TxR w B (.slice none 0 0) [] := ⟨RowG.nil _ _ _ _, fun k h => absurd h (by simp [Value.ownBlock]), fun x h => absurd h (List.not_mem_nil)⟩
theorem TxR.keep {w w' : World} {B : Nat} {T : Nat → Prop} {v : Value} {xs : List Tx} (h : TxR w B v xs) (f : Fr T w w') (hT : ∀ k, B ≤ k → k < w.heap.size → ¬ T k) : TxR w' B v xs := by
  have f2 : Fr (fun k => T k ∧ k < w.heap.size) w w' := f.sub fun k hk h => ⟨h, hk⟩
  exact ⟨h.row.keep f2 fun k hk ht => hT k (h.own k hk) ht.2 ht.1, h.own, fun x hx => (h.at_ x hx).keep f2 fun k hk ht => hT k hk.1 ht.2 ht.1⟩
theorem TxR.low {w : World} {B B' : Nat} {v : Value} {xs : List Tx} (h : TxR w B v xs) (hB : B' ≤ B) : TxR w B' v xs :=
  ⟨h.row, fun k hk => Nat.le_trans hB (h.own k hk), fun x hx => (h.at_ x hx).sub fun k _ hk => ⟨Nat.le_trans hB hk.1, hk.2⟩⟩
/-- Records that are read. -/
structure RcAt (w : World) (b o : Nat) (x : Tx) : Prop where
  c0 : w.cell? ⟨b, o, none⟩ = some (.slice x.a x.b.length x.c)
  rd : Rd w x.a x.b
theorem RcAt.keep {w w' : World} {b o : Nat} {x : Tx} (h : RcAt w b o x) (f : Fr No w w') : RcAt w' b o x := ⟨f.cell h.c0 (fun h => h), h.rd.keep f⟩
def Recs (w : World) (a : Option Addr) (l : List Tx) : Prop := 0 < l.length → ∃ b o, a = some ⟨b, o, none⟩ ∧ ∀ i x, l[i]? = some x → RcAt w b (o + i) x
theorem Recs.keep {w w' : World} {a : Option Addr} {l : List Tx} (h : Recs w a l) (f : Fr No w w') : Recs w' a l := fun hl => by
  obtain ⟨b, o, ha, hx⟩ := h hl
  exact ⟨b, o, ha, fun i x hi => (hx i x hi).keep f⟩
theorem Texts.recs {w : World} {a : Option Addr} {l : List Tx} (h : Texts w a l) : Recs w a l := fun hl => by
  obtain ⟨b, o, ha, hx⟩ := h hl
  exact ⟨b, o, ha, fun i x hi => ⟨(hx i x hi).c0, (hx i x hi).rd⟩⟩
theorem TxR.texts {w : World} {B : Nat} {v : Value} {xs : List Tx} (h : TxR w B v xs) : ∃ a cap, v = .slice a xs.length cap ∧ xs.length ≤ cap ∧ cap ≤ maxLen ∧ Recs w a xs := by
  obtain ⟨a, cap, rfl, h1, h2, h3, h4⟩ := h.row.form
  refine ⟨a, cap, rfl, h1, h2, fun h0 => ?_⟩
  obtain ⟨b, _, rfl, hc⟩ := h4 h0
  refine ⟨b, 0, rfl, fun i x hx => ?_⟩
  have hi : i < xs.length := (List.getElem?_eq_some_iff.1 hx).1
  refine ⟨?_, (h.at_ x (List.mem_of_getElem? hx)).rd⟩
  rw [Nat.zero_add, (hc i (by omega)).1]
  unfold txC
  rw [List.getElem?_map, hx]
  rfl
/-- A record more. -/
theorem TxR.push {w : World} {B : Nat} {v : Value} {xs : List Tx} (h : TxR w B v xs) (x : Tx) (h3 : In w (fun k => B ≤ k ∧ v.ownBlock ≠ some k) x.a x.b) (hB : B ≤ w.heap.size) (hn : xs.length < 1000000) :
    ∃ v' w', (Builtin.append_ #[69, 69] 69 #[v, .slice (some ⟨w.heap.size, 0, none⟩) 1 1]).run Tryd.prog (w.alloc (.cells #[.slice x.a x.b.length x.c] 51)) = .ok v' w' ∧ TxR w' B v' (xs ++ [x]) ∧ Fr (Own1 v) w w' := by
  obtain ⟨v', w', hrun, hrow, hfr⟩ := RowG.push rowTx h.row (fun k hk => (h.row.1.lt k hk).2) [txV x] rfl (by intro u hu; rw [List.mem_singleton.1 hu]; rfl) (by omega) (by omega)
  have hv : ∀ k, v'.ownBlock = some k → v.ownBlock = some k ∨ w.heap.size ≤ k := fun k hk => (hrow.2 k hk).elim .inl fun h => .inr h.1
  have hin : ∀ {y : Tx}, In w (fun k => B ≤ k ∧ v.ownBlock ≠ some k) y.a y.b → In w' (fun k => B ≤ k ∧ v'.ownBlock ≠ some k) y.a y.b := fun {y} hy =>
    (hy.sub (T := fun k => (B ≤ k ∧ v.ownBlock ≠ some k) ∧ k < w.heap.size) fun k hk h => ⟨h, hk⟩).keep hfr (fun k hk hv => hk.1.2 hv) |>.sub fun k _ hk => ⟨hk.1.1, fun e => (hv k e).elim hk.1.2 (fun h => by have := hk.2; omega)⟩
  refine ⟨v', w', hrun, ⟨?_, fun k hk => (hv k hk).elim (h.own k) fun h => Nat.le_trans hB h, fun y hy => ?_⟩, hfr⟩
  · rw [List.length_append]
    unfold txC
    rw [List.map_append]
    exact ⟨hrow.1, fun k hk => hk⟩
  · rcases List.mem_append.1 hy with hy | hy
    · exact hin (h.at_ y hy)
    · obtain rfl := List.mem_singleton.1 hy
      exact hin h3
theorem same_q {a a' : Option Addr} {len cap len' cap' : Nat} {l l' : List UInt8} {w : World} (hl : l.length = len) (hl' : l'.length = len') (hr : Rd w a l) (hr' : Rd w a' l') (n : Nat) :
    Calls Tryd.prog 31 #[.slice a len cap, .slice a' len' cap'] (w.drewN n) fun e w' => e = .returned (.bool (l == l')) ∧ ∃ m, w' = w.drewN m :=
  Calls.quiet_of_same ((same_c a a' len cap len' cap' l l' _ hl hl' (hr.keep ((Fr.refl No w).drewN n)) (hr'.keep ((Fr.refl No w).drewN n))).mono fun _ _ h => ⟨h.1, h.2.symm⟩)
theorem eqT {xs ys : List Tx} (hl : xs.length = ys.length) (h : ∀ (t : Nat) (x y : Tx), xs[t]? = some x → ys[t]? = some y → x.b = y.b) : (xs.map Tx.b == ys.map Tx.b) = true := by
  rw [beq_iff_eq]
  apply List.ext_getElem?
  intro i
  rw [List.getElem?_map, List.getElem?_map]
  rcases Nat.lt_or_ge i xs.length with h1 | h1
  · rw [List.getElem?_eq_getElem h1, List.getElem?_eq_getElem (by omega)]
    exact congrArg some (h i _ _ (List.getElem?_eq_getElem h1) (List.getElem?_eq_getElem (by omega)))
  · rw [List.getElem?_eq_none h1, List.getElem?_eq_none (by omega)]
theorem neT {xs ys : List Tx} (h : xs.length ≠ ys.length) : (xs.map Tx.b == ys.map Tx.b) = false := by
  rw [beq_eq_false_iff_ne]
  intro e
  have := congrArg List.length e
  rw [List.length_map, List.length_map] at this
  exact h this
theorem neT' {xs ys : List Tx} {t : Nat} {x y : Tx} (hx : xs[t]? = some x) (hy : ys[t]? = some y) (h : x.b ≠ y.b) : (xs.map Tx.b == ys.map Tx.b) = false := by
  rw [beq_eq_false_iff_ne]
  intro e
  have := congrArg (fun l => l[t]?) e
  simp only [List.getElem?_map, hx, hy, Option.map_some, Option.some.injEq] at this
  exact h this
theorem Row.own1 {w1 w2 : World} {v v' : Value} {l : List UInt8} {B : Nat} (h : Row w2 (Gr (Own1 v) w1 w2) v' l) (hv : ∀ k, v.ownBlock = some k → B ≤ k) (hB : B ≤ w1.heap.size) : Row w2 (Own1 v') v' l ∧ (∀ k, v'.ownBlock = some k → B ≤ k) ∧ ∀ k, v'.ownBlock = some k → v.ownBlock = some k ∨ w1.heap.size ≤ k :=
  ⟨h.own, fun k hk => (h.2 k hk).elim (hv k) fun h => Nat.le_trans hB h.1, fun k hk => (h.2 k hk).elim .inl fun h => .inr h.1⟩
theorem RowI.own1 {w1 w2 : World} {v v' : Value} {l : List Int} {B : Nat} (h : RowI w2 (Gr (Own1 v) w1 w2) v' l) (hv : ∀ k, v.ownBlock = some k → B ≤ k) (hB : B ≤ w1.heap.size) : RowI w2 (Own1 v') v' l ∧ (∀ k, v'.ownBlock = some k → B ≤ k) ∧ ∀ k, v'.ownBlock = some k → v.ownBlock = some k ∨ w1.heap.size ≤ k :=
  ⟨h.own, fun k hk => (h.2 k hk).elim (hv k) fun h => Nat.le_trans hB h.1, fun k hk => (h.2 k hk).elim .inl fun h => .inr h.1⟩
end Go.Proofs.YtihahckjcedceaaDoor

/- Layer 9: the document's Scan. -/
namespace Go.Proofs.YtihahckjcedceaaDoor
set_option linter.unusedVariables false
open Go.RowKit

theorem headF_same {r : List UInt8} {n k : Nat} (h : dec 9 0 (r.drop 4) = some (n, k)) (hn : n ≤ r.length - (4 + k)) :
    headF r = if frameL ((r.drop (4 + k)).take n) = r.take (4 + k + n) then some ((r.drop (4 + k)).take n, 4 + k + n) else none := by
  obtain ⟨b1, b2, b3, b4⟩ := body_parts h hn
  rw [headF_some h]
  have e : r.take (4 + k + n) = r.take 4 ++ (r.drop 4).take (k + n) := by rw [show 4 + k + n = 4 + (k + n) by omega, List.take_add]
  have e2 : (n ≤ r.length - (4 + k) ∧ r.take 4 = wordL (sumW ((r.drop 4).take (k + n)))) ↔ frameL ((r.drop (4 + k)).take n) = r.take (4 + k + n) := by
    rw [e]
    unfold frameL
    rw [← b3]
    constructor
    · rintro ⟨_, h2⟩
      rw [h2]
    · intro h2
      refine ⟨hn, ?_⟩
      exact ((List.append_inj h2 (by rw [wordL_length, List.length_take]; omega)).1).symm
  by_cases hc : frameL ((r.drop (4 + k)).take n) = r.take (4 + k + n)
  · rw [if_pos hc, if_pos (e2.2 hc)]
  · rw [if_neg hc, if_neg fun h => hc (e2.1 h)]
/-- What Scan tells. -/
def ScanRet (l : List UInt8) (w : World) (e : Ending) (w' : World) : Prop :=
  ∃ v xs, e = .returned (.tuple #[v, .int .i64 ((framesL (scanL l)).length : Int)]) ∧ TxR w' w.heap.size v xs ∧ xs.map Tx.b = scanL l ∧ Fr No w w'
theorem ScanRet.mk {l : List UInt8} {w w' : World} {v : Value} {xs : List Tx} {k : Nat} (hl : l.length ≤ 1000000) (hr : TxR w' w.heap.size v xs) (hf : Fr No w w') (hk : k ≤ l.length) (ht : l.take k = framesL (xs.map Tx.b)) (hh : headF (l.drop k) = none) :
    ScanRet l w (.returned (.tuple #[v, .int .i64 (k : Int)])) w' := by
  have hs := scn_end ht hh
  have e := scanL_eq (by omega) hs
  refine ⟨v, xs, ?_, hr, e.symm, hf⟩
  rw [e, ← ht, List.length_take, Nat.min_eq_left hk]
end Go.Proofs.YtihahckjcedceaaDoor
