/-
  Layer 14, VlogBack: rows of items, of pointers and of values beside a log.
-/
import Derived.Test.YtihahckjcedceaaDoorMxVgB1
namespace Go.Proofs.YtihahckjcedceaaDoor
set_option linter.unusedVariables false
set_option linter.unusedSimpArgs false
open Go.RowKit

abbrev P3 := Int × Int × Int
def p30 : P3 := (0, 0, 0)
def ptC (p : P3) : List Value := [.int .i64 p.1, .int .i64 p.2.1, .int .i64 p.2.2]
def ptsC (l : List P3) : List Value := l.flatMap ptC
structure PtAt (w : World) (b o : Nat) (p : P3) : Prop where
  c0 : w.cell? ⟨b, o, none⟩ = some (.int .i64 p.1)
  c1 : w.cell? ⟨b, o + 1, none⟩ = some (.int .i64 p.2.1)
  c2 : w.cell? ⟨b, o + 2, none⟩ = some (.int .i64 p.2.2)
def Pts (w : World) (S : Nat → Prop) (a : Option Addr) (l : List P3) : Prop :=
  0 < l.length → ∃ b o, S b ∧ a = some ⟨b, o, none⟩ ∧ ∀ i, i < l.length → PtAt w b (o + i * 3) (l.getD i p30)
theorem PtAt.keep {w w' : World} {T : Nat → Prop} {b o : Nat} {x : P3} (h : PtAt w b o x) (f : Fr T w w') (hn : ¬ T b) : PtAt w' b o x := ⟨f.cell h.c0 hn, f.cell h.c1 hn, f.cell h.c2 hn⟩
theorem ptsC_length (l : List P3) : (ptsC l).length = l.length * 3 := by
  induction l with
  | nil => rfl
  | cons p l ih =>
    show (ptC p ++ ptsC l).length = _
    rw [List.length_append, ih, List.length_cons]
    simp [ptC]
    omega
theorem ptsC_get (l : List P3) : ∀ i, i < l.length → ∀ j, j < 3 → (ptsC l)[i * 3 + j]? = (ptC (l.getD i p30))[j]? := by
  induction l with
  | nil => intro i h; simp at h
  | cons p l ih =>
    intro i h j hj
    have hl : (ptC p).length = 3 := rfl
    have e : ptsC (p :: l) = ptC p ++ ptsC l := rfl
    rw [e]
    cases i with
    | zero =>
      rw [List.getElem?_append_left (by omega)]
      rw [Nat.zero_mul, Nat.zero_add]
      rfl
    | succ i =>
      rw [List.getElem?_append_right (by omega), show (i + 1) * 3 + j - (ptC p).length = i * 3 + j by omega]
      exact ih i (by simpa using h) j hj
theorem ptsC_append (l m : List P3) : ptsC (l ++ m) = ptsC l ++ ptsC m := by simp [ptsC]
theorem RowG.pts {w : World} {S : Nat → Prop} {e : TypeId} {v : Value} {l : List P3} (h : RowG w S e 3 v l.length (ptsC l)) : ∃ a cap, v = .slice a l.length cap ∧ l.length ≤ cap ∧ cap ≤ maxLen ∧ Pts w S a l := by
  obtain ⟨a, cap, rfl, h1, h2, _, h3⟩ := h.form
  refine ⟨a, cap, rfl, h1, h2, fun hl => ?_⟩
  obtain ⟨b, hb, rfl, hc⟩ := h3 hl
  refine ⟨b, 0, hb, rfl, fun i hi => ?_⟩
  have hg := ptsC_get l i hi
  rw [Nat.zero_add]
  exact ⟨(hc (i * 3 + 0) (by omega)).1.trans (hg 0 (by omega)), (hc (i * 3 + 1) (by omega)).1.trans (hg 1 (by omega)), (hc (i * 3 + 2) (by omega)).1.trans (hg 2 (by omega))⟩
theorem rowPt : RowT Tryd.prog 41 23 (.agg #[.int .i64 0, .int .i64 0, .int .i64 0]) 3 24 := ⟨Tryd.underlying41, by kernel_rfl, rfl, by decide⟩
structure LoJ (W : World) (K : Nat → Prop) (w : World) (g d : Nat) (v : Value) (zs : List Int) (m : Dev) (u : Value) (us : List Ent) (p : Value) (ps : List P3) : Prop where
  ow : OwnL W K w g d v zs m
  kb : ∀ k, K k → W.heap.size ≤ k
  ri : RowG w (Own1 u) 45 4 u us.length (entsC us)
  rp : RowG w (Own1 p) 23 3 p ps.length (ptsC ps)
  ui : ∀ k, u.ownBlock = some k → K k
  pi : ∀ k, p.ownBlock = some k → K k
  ne : ∀ k, u.ownBlock = some k → p.ownBlock ≠ some k
section
variable {W w w' : World} {K : Nat → Prop} {g d : Nat} {v : Value} {zs : List Int} {m m' : Dev} {u : Value} {us : List Ent} {p : Value} {ps : List P3}
theorem LoJ.start (h : OwnL W No w g d v zs m) : LoJ W No w g d v zs m (.slice none 0 0) [] (.slice none 0 0) [] :=
  ⟨h, fun k h => h.elim, RowG.nil _ _ _ _, RowG.nil _ _ _ _, fun k h => absurd h (by simp [Value.ownBlock]), fun k h => absurd h (by simp [Value.ownBlock]), fun k h => absurd h (by simp [Value.ownBlock])⟩
theorem LoJ.new (h : LoJ W K w g d v zs m u us p ps) (f : Fr No w w') : LoJ W (Gr K w w') w' g d v zs m u us p ps :=
  ⟨h.ow.new f, gr_kb h.kb h.ow.fr, h.ri.keep f fun _ _ h => h, h.rp.keep f fun _ _ h => h, fun k hk => .inl (h.ui k hk), fun k hk => .inl (h.pi k hk), h.ne⟩
theorem LoJ.no (h : LoJ W K w g d v zs m u us p ps) (f : Fr No w w') : LoJ W K w' g d v zs m u us p ps := ⟨h.ow.no f, h.kb, h.ri.keep f fun _ _ h => h, h.rp.keep f fun _ _ h => h, h.ui, h.pi, h.ne⟩
theorem LoJ.call (h : LoJ W K w g d v zs m u us p ps) {v' : Value} {zs' : List Int} (ho : OwnL W K w' g d v' zs' m') (f : Fr (Off K) w w') : LoJ W K w' g d v' zs' m' u us p ps :=
  ⟨ho, h.kb, h.ri.keep f fun k hk hn => hn (h.ui k hk), h.rp.keep f fun k hk hn => hn (h.pi k hk), h.ui, h.pi, h.ne⟩
theorem LoJ.pushI (h : LoJ W K w g d v zs m u us p ps) (x : Ent) {n : Nat} (hn : us.length = n) (hl : n ≤ 1000000) :
    ∃ u' w', (Builtin.append_ #[35, 35] 35 #[u, .slice (some ⟨w.heap.size, 0, none⟩) 1 1]).run Tryd.prog (w.alloc (.cells #[.string x.u, .int .i64 x.q, .int .i64 x.k, .string x.val] 45)) = .ok u' w' ∧ LoJ W (Gr K w w') w' g d v zs m u' (us ++ [x]) p ps ∧ Fr (Own1 u) w w' := by
  subst hn
  obtain ⟨u', w', h1, h2, h3⟩ := h.ri.push rowIt (fun k hk => h.ow.low k (h.ui k hk)) (entC x) rfl (by intro u hu; simp [entC] at hu; rcases hu with rfl | rfl | rfl | rfl <;> rfl) (by omega) (by omega)
  have hb : ∀ k, u'.ownBlock = some k → u.ownBlock = some k ∨ (w.heap.size ≤ k ∧ k < w'.heap.size) := fun k hk => h2.2 k hk
  refine ⟨u', w', h1, ⟨h.ow.turn h3 fun k _ hk => ⟨h.ui k hk, h.kb k (h.ui k hk)⟩, gr_kb h.kb h.ow.fr, ?_, h.rp.keep h3 fun k hk hu => h.ne k hu hk, fun k hk => (hb k hk).elim (fun e => .inl (h.ui k e)) .inr, fun k hk => .inl (h.pi k hk), fun k hk hp => (hb k hk).elim (fun e => h.ne k e hp) fun e => by have := h.ow.low k (h.pi k hp); omega⟩, h3⟩
  rw [entsC_append, List.length_append]
  have e : entsC [x] = entC x := by simp [entsC]
  rw [e]
  exact ⟨h2.1, fun k hk => hk⟩
theorem LoJ.pushP (h : LoJ W K w g d v zs m u us p ps) (x : P3) {n : Nat} (hn : ps.length = n) (hl : n ≤ 1000000) :
    ∃ p' w', (Builtin.append_ #[41, 41] 41 #[p, .slice (some ⟨w.heap.size, 0, none⟩) 1 1]).run Tryd.prog (w.alloc (.cells #[.int .i64 x.1, .int .i64 x.2.1, .int .i64 x.2.2] 23)) = .ok p' w' ∧ LoJ W (Gr K w w') w' g d v zs m u us p' (ps ++ [x]) ∧ Fr (Own1 p) w w' := by
  subst hn
  obtain ⟨p', w', h1, h2, h3⟩ := h.rp.push rowPt (fun k hk => h.ow.low k (h.pi k hk)) (ptC x) rfl (by intro u hu; simp [ptC] at hu; rcases hu with rfl | rfl | rfl <;> rfl) (by omega) (by omega)
  have hb : ∀ k, p'.ownBlock = some k → p.ownBlock = some k ∨ (w.heap.size ≤ k ∧ k < w'.heap.size) := fun k hk => h2.2 k hk
  refine ⟨p', w', h1, ⟨h.ow.turn h3 fun k _ hk => ⟨h.pi k hk, h.kb k (h.pi k hk)⟩, gr_kb h.kb h.ow.fr, h.ri.keep h3 fun k hk hp => h.ne k hk hp, ?_, fun k hk => .inl (h.ui k hk), fun k hk => (hb k hk).elim (fun e => .inl (h.pi k e)) .inr, fun k hk hp => (hb k hp).elim (fun e => h.ne k hk e) fun e => by have := h.ow.low k (h.ui k hk); omega⟩, h3⟩
  rw [ptsC_append, List.length_append]
  have e : ptsC [x] = ptC x := by simp [ptsC]
  rw [e]
  exact ⟨h2.1, fun k hk => hk⟩
end
/-! ### Values joined. -/
theorem append_none_vl (w : World) (base : Option Addr) (n cap : Nat) (h : n ≤ cap) (a : Option Addr) (c : Nat) :
    (Builtin.append_ #[56, 56] 56 #[.slice base n cap, .slice a 0 c]).run Tryd.prog w = .ok (.slice base n cap) w := by
  obtain ⟨i0, hi, hz0, hz1, hz2⟩ := info_parts rowVl.info
  cases a <;> cases base <;> simp [Builtin.append_, run_underlying rowVl.und, sizeOf, typeInfo, hi, Builtin.lenOf, Builtin.firstCells, loadCells, loadCellsFrom, storeCells, h]
theorem vls_append {w : World} {S T : Nat → Prop} {v : Value} {o l : List Vl} {a : Option Addr} {c : Nat} (h : RowG w S 61 7 v o.length (vlsC o)) (hr : Vls w T a l) (hn : o.length + l.length ≤ 1000000) :
    ∃ v' w', (Builtin.append_ #[56, 56] 56 #[v, .slice a l.length c]).run Tryd.prog w = .ok v' w' ∧ RowG w' (Gr S w w') 61 7 v' (o ++ l).length (vlsC (o ++ l)) ∧ Fr S w w' := by
  rcases Nat.eq_zero_or_pos l.length with h0 | h0
  · have hl : l = [] := List.eq_nil_of_length_eq_zero h0
    subst hl
    obtain ⟨ba, cap, rfl, h1, _⟩ := h.form
    refine ⟨_, w, append_none_vl w ba o.length cap h1 a c, ?_, Fr.refl S w⟩
    rw [List.append_nil]
    exact h.sub fun x _ hx => .inl hx
  · obtain ⟨i0, hi, hz0, hz1, hz2⟩ := info_parts rowVl.info
    obtain ⟨b, off, _, rfl, hcells⟩ := hr h0
    obtain ⟨v', w', hrun, h2, h3, _, h5⟩ := run_append_own_at (P := Tryd.prog) w 0 56 56 61 i0 (.agg #[.string ⟨#[]⟩, .int .i64 0, .int .i64 0, .string ⟨#[]⟩, .int .i64 0, .int .i64 0, .int .i64 0]) 7 72 rowVl.und hi hz0 hz1 hz2 rowVl.zc rowVl.pos v o.length (vlsC o) h.1
      ⟨b, off, none⟩ l.length c (vlsC l) (vlsC_length l) (fun j u hj => by
        have hlt : j < l.length * 7 := by
          rcases Nat.lt_or_ge j (l.length * 7) with h1 | h1
          · exact h1
          · rw [List.getElem?_eq_none (by rw [vlsC_length]; exact h1)] at hj; cases hj
        rw [add_at]
        have hg := vlsC_get l (j / 7) (by omega) (j % 7) (Nat.mod_lt _ (by omega))
        have hc := hcells (j / 7) (by omega)
        rw [show j / 7 * 7 + j % 7 = j by omega, hj] at hg
        obtain ⟨c0, c1, c2, c3, c4, c5, c6⟩ := hc
        rcases (show j % 7 = 0 ∨ j % 7 = 1 ∨ j % 7 = 2 ∨ j % 7 = 3 ∨ j % 7 = 4 ∨ j % 7 = 5 ∨ j % 7 = 6 by omega) with e | e | e | e | e | e | e <;> rw [e] at hg <;> rw [hg]
        · rw [show off + j = off + j / 7 * 7 by omega]; exact c0
        · rw [show off + j = off + j / 7 * 7 + 1 by omega]; exact c1
        · rw [show off + j = off + j / 7 * 7 + 2 by omega]; exact c2
        · rw [show off + j = off + j / 7 * 7 + 3 by omega]; exact c3
        · rw [show off + j = off + j / 7 * 7 + 4 by omega]; exact c4
        · rw [show off + j = off + j / 7 * 7 + 5 by omega]; exact c5
        · rw [show off + j = off + j / 7 * 7 + 6 by omega]; exact c6) (by
        intro u hu
        unfold vlsC at hu
        obtain ⟨p, _, hp⟩ := List.mem_flatMap.1 hu
        simp [vlC] at hp
        rcases hp with rfl | rfl | rfl | rfl | rfl | rfl | rfl <;> rfl) (by unfold maxLen; omega) (by omega) (Nat.zero_le _)
    have hf3 := Fr.grown h3 h.2
    refine ⟨v', w', hrun, ⟨?_, fun x hx => ?_⟩, hf3⟩
    · rw [List.length_append, vlsC_append]
      exact h2
    · rcases h5 with h5 | h5
      · exact .inl (h.2 x (h5 ▸ hx))
      · rw [h5] at hx
        have hk : w.heap.size = x := Option.some.inj hx
        have h6 := (h2.lt x (by rw [h5, hk])).2
        exact .inr ⟨by omega, h6⟩
/-- All values so far. -/
def accV (S : Int → List Ent) : Nat → List Vl
  | 0 => []
  | j + 1 => accV S j ++ zvl S j
theorem accV_all (S : Int → List Ent) : accV S 4 = allV S := by
  show ((([] ++ zvl S 0) ++ zvl S 1) ++ zvl S 2) ++ zvl S 3 = allV S
  rw [List.nil_append]
  rfl
/-- The values joined so far, beside the log; all since w0. -/
structure LoV (W w0 w : World) (g d : Nat) (v : Value) (zs : List Int) (m : Dev) (q : Value) (l : List Vl) : Prop where
  ow : OwnL W (Own1 q) w g d v zs m
  row : RowG w (Own1 q) 61 7 q l.length (vlsC l)
  qb : ∀ k, q.ownBlock = some k → w0.heap.size ≤ k
  fr : Fr No w0 w
  wb : W.heap.size ≤ w0.heap.size
theorem LoV.start {W w0 : World} {K : Nat → Prop} {g d : Nat} {v : Value} {zs : List Int} {m : Dev} (h : OwnL W K w0 g d v zs m) : LoV W w0 w0 g d v zs m (.slice none 0 0) [] :=
  ⟨h.sub fun k hk => absurd hk (by simp [Own1, Value.ownBlock]), RowG.nil _ _ _ _, fun k h => absurd h (by simp [Value.ownBlock]), Fr.refl _ _, h.fr.size⟩
/-- Behind List, and the append of what it tells. -/
theorem LoV.more {W w0 w w1 : World} {g d : Nat} {v : Value} {zs : List Int} {m : Dev} {q : Value} {l : List Vl} (h : LoV W w0 w g d v zs m q l) (f : Fr No w w1) {x : Value} {k : List Vl} (hx : RowG w1 (Gr No w w1) 61 7 x k.length (vlsC k)) (hn : l.length + k.length ≤ 1000000) :
    ∃ q' w', (Builtin.append_ #[56, 56] 56 #[q, x]).run Tryd.prog w1 = .ok q' w' ∧ LoV W w0 w' g d v zs m q' (l ++ k) := by
  obtain ⟨a, c, rfl, _, _, hv⟩ := hx.vls
  have hq := h.row.keep f fun _ _ h => h
  obtain ⟨q', w', h1, h2, h3⟩ := vls_append (c := c) hq hv hn
  have hb : ∀ k, q'.ownBlock = some k → q.ownBlock = some k ∨ (w1.heap.size ≤ k ∧ k < w'.heap.size) := fun k hk => h2.2 k hk
  have hs : w0.heap.size ≤ w1.heap.size := Nat.le_trans h.fr.size f.size
  refine ⟨q', w', h1, ⟨((h.ow.no f).turn h3 fun k _ hk => ⟨hk, Nat.le_trans h.wb (h.qb k hk)⟩).sub fun k hk => hb k hk, ⟨h2.1, fun k hk => hk⟩, fun k hk => (hb k hk).elim (h.qb k) fun e => Nat.le_trans hs e.1, (h.fr.trans f).then_ h3 fun k hk hq => by have := h.qb k hq; omega, h.wb⟩⟩
end Go.Proofs.YtihahckjcedceaaDoor
