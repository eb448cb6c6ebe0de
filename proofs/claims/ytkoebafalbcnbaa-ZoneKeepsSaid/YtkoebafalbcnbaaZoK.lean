/-
  Layer 7, for ZoneKeeps: what was laid and what is safe, in memory and as the document's device has it; bytes appended to bytes with no room behind.
-/
import Derived.Test.YtkoebafalbcnbaaZoD
import Derived.Test.YtkoebafalbcnbaaZoP
namespace Go.Proofs.Ytkoebafalbcnbaa
set_option linter.unusedVariables false
open Go.RowKit

theorem rowB : RowT Try.prog 31 5 (.int .u8 0) 1 1 := ⟨Try.underlying31, infoU8, rfl, by decide⟩
theorem rowBB : RowT Try.prog 29 31 (.slice none 0 0) 1 24 := ⟨Try.underlying29, by kernel_rfl, rfl, by decide⟩
theorem rowII : RowT Try.prog 30 3 (.int .i64 0) 1 8 := ⟨Try.underlying30, by kernel_rfl, rfl, by decide⟩
theorem append_none {P : Program} {t e : TypeId} {z : Value} {k b : Nat} (hT : RowT P t e z k b) (w : World) (base : Option Addr) (n cap : Nat) (h : n ≤ cap) (a : Option Addr) (c : Nat) :
    (Builtin.append_ #[t, t] t #[.slice base n cap, .slice a 0 c]).run P w = .ok (.slice base n cap) w := by
  obtain ⟨i0, hi, hz0, hz1, hz2⟩ := info_parts hT.info
  cases a <;> cases base <;> simp [Builtin.append_, run_underlying hT.und, sizeOf, typeInfo, hi, Builtin.lenOf, Builtin.firstCells, loadCells, loadCellsFrom, storeCells, h]
theorem make_slots {t e : TypeId} {z : Value} {b : Nat} (hT : RowT Try.prog t e z 1 b) (hb : b ≤ 1000) (w : World) (n : Nat) (h : n ≤ 1000) :
    (Instr.makeSlice t (.int .i64 (n : Int)) (.int .i64 (n : Int))).run Try.prog w = .ok (.slice (some ⟨w.heap.size, 0, none⟩) n n) (w.alloc (.cells (madeCells z.cells n) e)) := by
  obtain ⟨i0, hi, hz0, hz1, hz2⟩ := info_parts hT.info
  have hr := run_make (P := Try.prog) w t e i0 z hT.und hi hz0 .i64 .i64 n n (by omega) (by omega) (by rw [hz2]; exact Int.ofNat_le.2 (Nat.le_trans (Nat.mul_le_mul hb h) (by decide))) (by omega)
  rw [hz1] at hr
  simp only [Int.toNat_natCast, Nat.mul_one] at hr
  exact hr
theorem made_one (v : Value) (n : Nat) : madeCells #[v] n = (List.replicate n v).toArray := by
  apply Array.ext
  · simp [size_madeCells]
  · intro i h1 h2
    simp [madeCells, Nat.mod_one]
theorem In.bytes {w : World} {S : Nat → Prop} {a : Option Addr} {l : List UInt8} (h : In w S a l) (hl : 0 < l.length) : ∃ b o, S b ∧ a = some ⟨b, o, none⟩ ∧ ∀ j u, (l.map byt)[j]? = some u → w.cell? ((⟨b, o, none⟩ : Addr).add j) = some u := by
  obtain ⟨b, o, hb, ha, hc⟩ := h hl
  refine ⟨b, o, hb, ha, fun j u hu => ?_⟩
  rw [List.getElem?_map] at hu
  cases e : l[j]? with
  | none => rw [e] at hu; cases hu
  | some x =>
    rw [e] at hu
    obtain rfl := Option.some.inj hu
    obtain ⟨hj, hx⟩ := List.getElem?_eq_some_iff.1 e
    rw [add_at, hc j hj, List.getD_eq_getElem?_getD, e]
    rfl
/-- BYTES APPENDED to bytes with no room behind them. -/
theorem grow_bytes (w : World) {X S : Nat → Prop} (a : Option Addr) (l : List UInt8) (h : In w X a l) (b : Option Addr) (c : Nat) (d : List UInt8) (hd : In w S b d) (hl : l.length + d.length ≤ 1000000) :
    ∃ a' c' w', (Builtin.append_ #[31, 31] 31 #[.slice a l.length l.length, .slice b d.length c]).run Try.prog w = .ok (.slice a' (l ++ d).length c') w' ∧ (l ++ d).length ≤ c' ∧ c' ≤ maxLen ∧ In w' (Gr X w w') a' (l ++ d) ∧ Fr No w w' := by
  obtain ⟨i0, hi, hz0, hz1, hz2⟩ := info_parts infoU8
  rcases Nat.eq_zero_or_pos d.length with h0 | h0
  · obtain rfl : d = [] := List.eq_nil_of_length_eq_zero h0
    rw [List.append_nil]
    exact ⟨a, l.length, w, append_none rowB w a l.length l.length (Nat.le_refl _) b c, Nat.le_refl _, by unfold maxLen; omega, h.sub fun k _ hk => .inl hk, Fr.refl _ _⟩
  obtain ⟨db, dO, _, rfl, hdc⟩ := hd.bytes h0
  have fin : ∀ (g c : Nat) (cur : Array Value) (w' : World), w'.heap[g]? = some (.cells cur 5 (0, 0)) → w.heap.size ≤ g → cur.toList.take (l.length + d.length) = (l ++ d).map byt → In w' (Gr X w w') (some ⟨g, 0, none⟩) (l ++ d) := fun g c cur w' hg hge ht _ => by
    have hlt : g < w'.heap.size := (Array.getElem?_eq_some_iff.1 hg).1
    refine ⟨g, 0, .inr ⟨hge, hlt⟩, rfl, fun i hi => ?_⟩
    have hi' : i < l.length + d.length := by rw [List.length_append] at hi; exact hi
    rw [Nat.zero_add, cell_of_row w' g i cur _ (0, 0) hg, ← Array.getElem?_toList]
    have e : (cur.toList.take (l.length + d.length))[i]? = cur.toList[i]? := by rw [List.getElem?_take, if_pos hi']
    rw [← e, ht, List.getElem?_map, List.getElem?_eq_getElem hi, List.getD_eq_getElem?_getD, List.getElem?_eq_getElem hi]
    rfl
  cases a with
  | none =>
    have hl0 : l = [] := by
      rcases Nat.eq_zero_or_pos l.length with h1 | h1
      · exact List.eq_nil_of_length_eq_zero h1
      · obtain ⟨_, _, _, e, _⟩ := h h1
        cases e
    subst hl0
    have hr := run_append_nil (P := Try.prog) w 31 31 5 i0 (.int .u8 0) Try.underlying31 hi hz0 ⟨db, dO, none⟩ d.length c (d.map byt) (by rw [hz1, List.length_map, Nat.mul_one]) hdc h0 (by simp at hl; omega) (by rw [hz2]; simp at hl; omega)
    refine ⟨_, _, _, hr, grownCap_ge _ _ _ _, grownCap_le_maxLen _ _ _ _ (by simp at hl; unfold maxLen; simp; omega), ?_, ((Fr.refl No w).drew).alloc _⟩
    refine fin _ 0 _ _ (heap_alloc_new _ _) (Nat.le_refl _) ?_
    simp
  | some x =>
    have holds : ∀ j u, (l.map byt)[j]? = some u → w.cell? (x.add j) = some u := by
      intro j u hu
      rcases Nat.eq_zero_or_pos l.length with h1 | h1
      · rw [List.eq_nil_of_length_eq_zero h1] at hu; simp at hu
      · obtain ⟨xb, xo, _, e, hx⟩ := h.bytes h1
        obtain rfl := Option.some.inj e
        exact hx j u hu
    obtain ⟨v', w', hrun, hown, hgr⟩ := run_append_arg_grows (P := Try.prog) w 31 31 5 i0 (.int .u8 0) 1 1 Try.underlying31 hi hz0 hz1 hz2 rfl (by omega) x l.length l.length (l.map byt) (by simp) holds ⟨db, dO, none⟩ d.length c (d.map byt) (by simp) hdc (by omega) (by unfold maxLen; omega) (by omega)
    have hf := Fr.grown (S := No) hgr (fun k hk => by cases hk)
    rcases hown.2 with ⟨_, h2⟩ | ⟨g, c', cur, rfl, hge, hg, hn, hm, _, ht⟩
    · omega
    · refine ⟨some ⟨g, 0, none⟩, c', w', by rw [List.length_append]; exact hrun, by rw [List.length_append]; exact hn, hm, fin g c' cur w' hg hge ?_, hf⟩
      rw [Nat.mul_one] at ht
      rw [ht, List.map_append]
theorem cut_own (a : Option Addr) (n c : Nat) (h : n ≤ c) (w : World) :
    (Instr.slice 31 (.slice a n c) none (some (.int .i64 (n : Int))) (some (.int .i64 (n : Int)))).run Try.prog w = .ok (.slice a n n) w := by
  have he : Try.prog.elem 31 = 5 := by simp [Program.elem, Try.underlying31]
  have ht' : Try.prog.underlying 31 = some (.slice (Try.prog.elem 31)) := by rw [he]; exact Try.underlying31
  obtain ⟨i0, hi, hz0, hz1, hz2⟩ := info_parts infoU8
  rw [run_slice_hm w 31 a n c ht' .i64 .i64 n n (by omega) (by omega) (by omega), he, size_one cellsU8 ⟨i0, hi, hz1⟩]
  simp [Result.andThen, sliced]
  cases a with
  | none => simp
  | some x => simp [Addr.add]
theorem oper_append_run {P : Program} {o : Oper} {a : Act} {w w' : World} {K : Act → World → Prop} {Q : Exit → Act → World → Prop} (s x : Operand) (t : TypeId)
    (ho : o.op = .call { callee := .builtin .append, args := #[s, x], argTypes := #[t, t] }) {v u v' : Value} (hs : a.eval s = v) (hx : a.eval x = u)
    (hr : (Builtin.append_ #[t, t] o.type #[v, u]).run P w = .ok v' w') (h : K (a.put o.dst v') w') : Oper.wp P o a w K Q := by
  unfold Oper.wp
  simp only [execOp, ho, resolve, invoke, builtin, Sem.run_bind, Sem.run_pure, Result.andThen_ok, List.map_toArray, List.map_cons, List.map_nil, hs, hx, hr]
  exact h

/-! ### What was laid, what is safe. -/
def tx0 : Tx := ⟨none, 0, []⟩
def laidC (xs : List Tx) : Array Value := (xs.map fun x => Value.slice x.a x.b.length x.c).toArray
def safeC (fs : List Nat) : Array Value := (fs.map fun (f : Nat) => Value.int .i64 (f : Int)).toArray
theorem laidC_set (xs : List Tx) (i : Nat) (x : Tx) : (laidC xs).setIfInBounds i (.slice x.a x.b.length x.c) = laidC (xs.set i x) := by
  apply Array.ext'
  simp [laidC, List.map_set]
theorem safeC_set (fs : List Nat) (i : Nat) (f : Nat) : (safeC fs).setIfInBounds i (.int .i64 (f : Int)) = safeC (fs.set i f) := by
  apply Array.ext'
  simp [safeC, List.map_set]
theorem laidC_get (xs : List Tx) (i : Nat) (h : i < xs.length) : (laidC xs)[i]? = some (.slice (xs.getD i tx0).a (xs.getD i tx0).b.length (xs.getD i tx0).c) := by
  simp [laidC, List.getD, h]
theorem safeC_get (fs : List Nat) (i : Nat) (h : i < fs.length) : (safeC fs)[i]? = some (.int .i64 ((fs.getD i 0 : Nat) : Int)) := by
  simp [safeC, List.getD, h]
/-- The two rows in memory: their blocks L and G; what the first one's elements read lies in X, apart from the device's blocks F. -/
structure KS (w1 w : World) (L G : Nat) (Z : Nat) (xs : List Tx) (fs : List Nat) (F X : Nat → Prop) : Prop where
  la : At w L 31 (laidC xs)
  sa : At w G 3 (safeC fs)
  xl : xs.length = Z
  fl : fs.length = Z
  el : ∀ i, i < Z → (xs.getD i tx0).b.length ≤ (xs.getD i tx0).c ∧ (xs.getD i tx0).c ≤ maxLen ∧ In w X (xs.getD i tx0).a (xs.getD i tx0).b
  hi : ∀ k, X k → k < w.heap.size
  ap : ∀ k, X k → ¬ F k ∧ k ≠ L ∧ k ≠ G
  nl : ¬ F L
  ng : ¬ F G
  lg : L ≠ G
  lw : w1.heap.size ≤ L
  gw : w1.heap.size ≤ G
theorem KS.keep {w1 w w' : World} {L G Z : Nat} {xs : List Tx} {fs : List Nat} {F F' X T : Nat → Prop} (h : KS w1 w L G Z xs fs F X) (f : Fr T w w') (ht : ∀ k, T k → F k) (hf : ∀ k, F' k → F k ∨ w.heap.size ≤ k) : KS w1 w' L G Z xs fs F' X :=
  ⟨h.la.keep f (fun hk => h.nl (ht _ hk)), h.sa.keep f (fun hk => h.ng (ht _ hk)), h.xl, h.fl, fun i hi => ⟨(h.el i hi).1, (h.el i hi).2.1, (h.el i hi).2.2.keep f (fun k hk hT => (h.ap k hk).1 (ht k hT))⟩, fun k hk => Nat.lt_of_lt_of_le (h.hi k hk) f.size,
    fun k hk => ⟨fun hF => (hf k hF).elim (h.ap k hk).1 (fun h2 => absurd (h.hi k hk) (by omega)), (h.ap k hk).2⟩, fun hF => (hf _ hF).elim h.nl (fun h2 => absurd h.la.lt (by omega)), fun hF => (hf _ hF).elim h.ng (fun h2 => absurd h.sa.lt (by omega)), h.lg, h.lw, h.gw⟩
theorem KS.tell {w1 w w' : World} {L G Z : Nat} {xs : List Tx} {fs : List Nat} {F X : Nat → Prop} (h : KS w1 w L G Z xs fs F X) (f : Fr No w w') : KS w1 w' L G Z xs fs F X := h.keep f (fun _ h => h.elim) (fun _ h => .inl h)
theorem getD_set_tx (xs : List Tx) (q i : Nat) (x : Tx) (hq : q < xs.length) : (xs.set q x).getD i tx0 = if i = q then x else xs.getD i tx0 := by
  rw [List.getD_eq_getElem?_getD, List.getElem?_set]
  by_cases h : q = i
  · subst h; simp [hq]
  · rw [if_neg h, if_neg (fun e => h e.symm), List.getD_eq_getElem?_getD]
theorem getD_set_nat (fs : List Nat) (q i : Nat) (x : Nat) (hq : q < fs.length) : (fs.set q x).getD i 0 = if i = q then x else fs.getD i 0 := by
  rw [List.getD_eq_getElem?_getD, List.getElem?_set]
  by_cases h : q = i
  · subst h; simp [hq]
  · rw [if_neg h, if_neg (fun e => h e.symm), List.getD_eq_getElem?_getD]
/-- A store into the first row. -/
theorem KS.setL {w1 w : World} {L G Z : Nat} {xs : List Tx} {fs : List Nat} {F X X' : Nat → Prop} (h : KS w1 w L G Z xs fs F X) {q : Nat} (hq : q < Z) (x : Tx) (h1 : x.b.length ≤ x.c) (h2 : x.c ≤ maxLen) (hx : In w X' x.a x.b) (hs : ∀ k, X k → X' k) (hi : ∀ k, X' k → k < w.heap.size) (ha : ∀ k, X' k → ¬ F k ∧ k ≠ L ∧ k ≠ G) :
    KS w1 (w.setCell ⟨L, q, none⟩ (.slice x.a x.b.length x.c)) L G Z (xs.set q x) fs F X' ∧ Fr (One L) w (w.setCell ⟨L, q, none⟩ (.slice x.a x.b.length x.c)) := by
  have f : Fr (One L) w (w.setCell ⟨L, q, none⟩ (.slice x.a x.b.length x.c)) := (Fr.refl (One L) w).setCell (p := ⟨L, q, none⟩) (fun _ => rfl) _
  have hq' : q < xs.length := by rw [h.xl]; exact hq
  refine ⟨⟨?_, h.sa.keep f (fun e => h.lg (show G = L from e).symm), by rw [List.length_set]; exact h.xl, h.fl, fun i hiz => ?_, fun k hk => Nat.lt_of_lt_of_le (hi k hk) f.size, ha, h.nl, h.ng, h.lg, h.lw, h.gw⟩, f⟩
  · rw [← laidC_set]
    exact h.la.set_ q _
  · rw [getD_set_tx xs q i x hq']
    by_cases e : i = q
    · rw [if_pos e]
      exact ⟨h1, h2, hx.keep f (fun k hk e => (ha k hk).2.1 e)⟩
    · rw [if_neg e]
      obtain ⟨e1, e2, e3⟩ := h.el i hiz
      exact ⟨e1, e2, (e3.sub (fun k _ hk => hs k hk)).keep f (fun k hk e => (ha k hk).2.1 e)⟩
/-- A store into the second row. -/
theorem KS.setG {w1 w : World} {L G Z : Nat} {xs : List Tx} {fs : List Nat} {F X : Nat → Prop} (h : KS w1 w L G Z xs fs F X) (q : Nat) (v : Nat) :
    KS w1 (w.setCell ⟨G, q, none⟩ (.int .i64 (v : Int))) L G Z xs (fs.set q v) F X ∧ Fr (One G) w (w.setCell ⟨G, q, none⟩ (.int .i64 (v : Int))) := by
  have f : Fr (One G) w (w.setCell ⟨G, q, none⟩ (.int .i64 (v : Int))) := (Fr.refl (One G) w).setCell (p := ⟨G, q, none⟩) (fun _ => rfl) _
  refine ⟨⟨h.la.keep f (fun e => h.lg (show L = G from e)), ?_, h.xl, by rw [List.length_set]; exact h.fl, fun i hiz => ⟨(h.el i hiz).1, (h.el i hiz).2.1, (h.el i hiz).2.2.keep f (fun k hk e => (h.ap k hk).2.2 e)⟩, fun k hk => Nat.lt_of_lt_of_le (h.hi k hk) f.size, h.ap, h.nl, h.ng, h.lg, h.lw, h.gw⟩, f⟩
  rw [← safeC_set]
  exact h.sa.set_ q _
theorem KS.cellL {w1 w : World} {L G Z : Nat} {xs : List Tx} {fs : List Nat} {F X : Nat → Prop} (h : KS w1 w L G Z xs fs F X) {q : Nat} (hq : q < Z) : w.cell? ⟨L, q, none⟩ = some (.slice (xs.getD q tx0).a (xs.getD q tx0).b.length (xs.getD q tx0).c) ∧ w.frozen? ⟨L, q, none⟩ = false :=
  ⟨(h.la.cell q).trans (laidC_get xs q (by rw [h.xl]; exact hq)), h.la.frozen q⟩
theorem KS.cellG {w1 w : World} {L G Z : Nat} {xs : List Tx} {fs : List Nat} {F X : Nat → Prop} (h : KS w1 w L G Z xs fs F X) {q : Nat} (hq : q < Z) : w.cell? ⟨G, q, none⟩ = some (.int .i64 ((fs.getD q 0 : Nat) : Int)) ∧ w.frozen? ⟨G, q, none⟩ = false :=
  ⟨(h.sa.cell q).trans (safeC_get fs q (by rw [h.fl]; exact hq)), h.sa.frozen q⟩

/-! ### .. and the device. -/
def bM (m : Dev) (i : Nat) : List UInt8 := (m.zs.getD i zn0).b
def fM (m : Dev) (i : Nat) : Nat := (m.zs.getD i zn0).f
structure KR (m : Dev) (Z : Nat) (xs : List Tx) (fs : List Nat) : Prop where
  z : m.zs.length = Z
  x : xs.length = Z
  y : fs.length = Z
  b : ∀ i, i < Z → (xs.getD i tx0).b = bM m i
  f : ∀ i, i < Z → fs.getD i 0 = fM m i
theorem pow_zs (m : Dev) : (powM m).zs = m.zs := by
  unfold powM
  split <;> rfl
theorem zoneM_nat (m : Dev) (q : Nat) : zoneM m (q : Int) = m.zs.getD q zn0 := by unfold zoneM; rw [show ((q : Int)).toNat = q by omega]
theorem zs_set (m : Dev) (q i : Nat) (x : Zn) (hq : q < m.zs.length) : ((setZ m (q : Int) x).zs.getD i zn0) = if i = q then x else m.zs.getD i zn0 := by
  show ((m.zs.set ((q : Int)).toNat x).getD i zn0) = _
  rw [show ((q : Int)).toNat = q by omega, List.getD_eq_getElem?_getD, List.getElem?_set]
  by_cases h : q = i
  · subst h; simp [hq]
  · rw [if_neg h, if_neg (fun e => h e.symm), List.getD_eq_getElem?_getD]
theorem KR.same {m m' : Dev} {Z : Nat} {xs : List Tx} {fs : List Nat} (h : KR m Z xs fs) (he : m'.zs = m.zs) : KR m' Z xs fs :=
  ⟨by rw [he]; exact h.z, h.x, h.y, fun i hi => by rw [h.b i hi]; unfold bM; rw [he], fun i hi => by rw [h.f i hi]; unfold fM; rw [he]⟩
theorem appM_zs {m : Dev} {z : Int} {b : List UInt8} (h : ¬ appErr m z b = 0) : (appM m z b).zs = m.zs := by unfold appM; rw [if_neg h]
/-- Zone q turned. -/
theorem KR.turn {m m' : Dev} {Z : Nat} {xs : List Tx} {fs : List Nat} (h : KR m Z xs fs) {q : Nat} (hq : q < Z) (y : Zn) (he : m'.zs = (setZ m (q : Int) y).zs) (x : Tx) (hx : x.b = y.b) : KR m' Z (xs.set q x) (fs.set q y.f) := by
  have hq' : q < m.zs.length := by rw [h.z]; exact hq
  refine ⟨by rw [he]; show (m.zs.set _ _).length = _; rw [List.length_set]; exact h.z, by rw [List.length_set]; exact h.x, by rw [List.length_set]; exact h.y, fun i hi => ?_, fun i hi => ?_⟩
  · unfold bM
    rw [he, zs_set m q i _ hq', getD_set_tx xs q i x (by rw [h.x]; exact hq)]
    by_cases e : i = q
    · rw [if_pos e, if_pos e, hx]
    · rw [if_neg e, if_neg e]
      exact h.b i hi
  · unfold fM
    rw [he, zs_set m q i _ hq', getD_set_nat fs q i _ (by rw [h.y]; exact hq)]
    by_cases e : i = q
    · rw [if_pos e, if_pos e]
    · rw [if_neg e, if_neg e]
      exact h.f i hi
theorem set_same (fs : List Nat) (q : Nat) : fs.set q (fs.getD q 0) = fs := by
  apply List.ext_getElem?
  intro i
  rw [List.getElem?_set]
  by_cases h : q = i
  · subst h
    rw [if_pos rfl]
    by_cases h2 : q < fs.length
    · rw [if_pos h2, List.getD_eq_getElem?_getD, List.getElem?_eq_getElem h2]; rfl
    · rw [if_neg h2, List.getElem?_eq_none (by omega)]
  · rw [if_neg h]
/-- Bytes appended to zone q. -/
theorem KR.app {m : Dev} {Z : Nat} {xs : List Tx} {fs : List Nat} (h : KR m Z xs fs) {q : Nat} (hq : q < Z) (d : List UInt8) (x : Tx) (hx : x.b = (xs.getD q tx0).b ++ d) (hc : appErr m (q : Int) d = 0 ∨ d = []) : KR (appM m (q : Int) d) Z (xs.set q x) fs := by
  rw [h.b q hq] at hx
  by_cases h0 : appErr m (q : Int) d = 0
  · have e : (appM m (q : Int) d).zs = (setZ m (q : Int) (appZ m (q : Int) d)).zs := by
      unfold appM
      rw [if_pos h0, pow_zs]
    have ef : (appZ m (q : Int) d).f = fs.getD q 0 := by
      rw [h.f q hq]
      show (zoneM m (q : Int)).f = _
      rw [zoneM_nat]
      rfl
    have := h.turn hq (appZ m (q : Int) d) e x (by rw [hx]; show _ = (zoneM m (q : Int)).b ++ d; rw [zoneM_nat]; rfl)
    rw [ef, set_same] at this
    exact this
  · rcases hc with hc | rfl
    · exact absurd hc h0
    · rw [List.append_nil] at hx
      have e := appM_zs h0
      refine ⟨by rw [e]; exact h.z, by rw [List.length_set]; exact h.x, h.y, fun i hi => ?_, fun i hi => by rw [h.f i hi]; unfold fM; rw [e]⟩
      unfold bM
      rw [e, getD_set_tx xs q i x (by rw [h.x]; exact hq)]
      by_cases e2 : i = q
      · subst e2
        rw [if_pos rfl, hx]
        rfl
      · rw [if_neg e2]
        exact h.b i hi
theorem KR.res {m : Dev} {Z : Nat} {xs : List Tx} {fs : List Nat} (h : KR m Z xs fs) {q : Nat} (hq : q < Z) (he : cmdR m (resErr m (q : Int)) = 0) : KR (resM m (q : Int)) Z (xs.set q tx0) (fs.set q 0) := by
  have h0 : resErr m (q : Int) = 0 ∧ cmdM m = true := by
    unfold cmdR at he
    split at he
    · rename_i h1
      refine ⟨h1, ?_⟩
      cases e : cmdM m with
      | true => rfl
      | false => rw [e] at he; simp at he
    · rename_i h1; exact absurd he h1
  refine h.turn hq zn0 ?_ tx0 rfl
  unfold resM
  rw [if_pos h0.1, h0.2, if_pos rfl, pow_zs]
theorem resM_zs {m : Dev} {z : Int} (h : ¬ cmdR m (resErr m z) = 0) : (resM m z).zs = m.zs := by
  unfold resM
  split
  · rename_i h1
    split
    · rename_i h2
      exfalso
      apply h
      rw [cmdR_zero h1, h2]
      rfl
    · exact pow_zs m
  · rfl
/-- A zone's bytes and what is flushed of them stay. -/
theorem KR.fin {m : Dev} {Z : Nat} {xs : List Tx} {fs : List Nat} (h : KR m Z xs fs) (z : Int) : KR (finM m z) Z xs fs := by
  unfold finM
  split
  · rename_i h1
    have h2 := (finErr_ok h1).2.1
    split
    · obtain ⟨hz0, hz1⟩ := hasZ_iff.1 h2
      obtain ⟨q, rfl⟩ : ∃ q : Nat, z = (q : Int) := ⟨z.toNat, by omega⟩
      have hq : q < Z := by rw [← h.z]; omega
      have := h.turn hq { zoneM m (q : Int) with s := 2 } (m' := powM (setZ m (q : Int) { zoneM m (q : Int) with s := 2 })) (pow_zs _) (xs.getD q tx0) (by
        rw [h.b q hq]
        show _ = (zoneM m (q : Int)).b
        rw [zoneM_nat]
        rfl)
      have ef : ({ zoneM m (q : Int) with s := 2 } : Zn).f = fs.getD q 0 := by
        rw [h.f q hq]
        show (zoneM m (q : Int)).f = _
        rw [zoneM_nat]
        rfl
      rw [ef, set_same] at this
      have ex : xs.set q (xs.getD q tx0) = xs := by
        apply List.ext_getElem?
        intro i
        rw [List.getElem?_set]
        by_cases h3 : q = i
        · subst h3
          have h4 : q < xs.length := by rw [h.x]; exact hq
          rw [if_pos rfl, if_pos h4, List.getD_eq_getElem?_getD, List.getElem?_eq_getElem h4]
          rfl
        · rw [if_neg h3]
      rw [ex] at this
      exact this
    · exact h.same (pow_zs m)
  · exact h
theorem fluM_zs {m : Dev} (h : ¬ cmdR m (fluErr m) = 0) : (fluM m).zs = m.zs := by
  unfold fluM
  split
  · rename_i h1
    split
    · rename_i h2
      exfalso
      apply h
      rw [cmdR_zero h1, h2]
      rfl
    · exact pow_zs m
  · rfl
theorem fluM_all {m : Dev} (h : cmdR m (fluErr m) = 0) : (fluM m).zs = m.zs.map fun x => { x with f := x.b.length } := by
  have h0 : fluErr m = 0 ∧ cmdM m = true := by
    unfold cmdR at h
    split at h
    · rename_i h1
      refine ⟨h1, ?_⟩
      cases e : cmdM m with
      | true => rfl
      | false => rw [e] at h; simp at h
    · rename_i h1; exact absurd h h1
  unfold fluM
  rw [if_pos h0.1, h0.2, if_pos rfl, pow_zs]
  rfl
/-- All is flushed. -/
theorem KR.flu {m : Dev} {Z : Nat} {xs : List Tx} {fs fs' : List Nat} (h : KR m Z xs fs) (he : cmdR m (fluErr m) = 0) (hy : fs'.length = Z) (hf : ∀ i, i < Z → fs'.getD i 0 = (xs.getD i tx0).b.length) : KR (fluM m) Z xs fs' := by
  have e := fluM_all he
  have eg : ∀ i, i < Z → (fluM m).zs.getD i zn0 = { (m.zs.getD i zn0) with f := (m.zs.getD i zn0).b.length } := fun i hi => by
    have : i < m.zs.length := by rw [h.z]; exact hi
    rw [e, List.getD_eq_getElem?_getD, List.getElem?_map, List.getD_eq_getElem?_getD, List.getElem?_eq_getElem this]
    rfl
  refine ⟨by rw [e, List.length_map]; exact h.z, h.x, hy, fun i hi => ?_, fun i hi => ?_⟩
  · unfold bM
    rw [eg i hi]
    exact h.b i hi
  · unfold fM
    rw [eg i hi, hf i hi, h.b i hi]
    rfl
/-- Behind a crash. -/
theorem crash_at {m : Dev} (hw : WF m) (ks : List Int) {i : Nat} (hi : i < m.zs.length) : ∃ n, fM (crashM m ks) i = n ∧ bM (crashM m ks) i = (bM m i).take n ∧ fM m i ≤ n ∧ n ≤ (bM m i).length := by
  have hk := hw.z (m.zs.getD i zn0) (by rw [List.getD_eq_getElem?_getD, List.getElem?_eq_getElem hi]; exact List.getElem_mem _)
  have e : (crashM m ks).zs.getD i zn0 = crashZ m.size (m.zs.getD i zn0) (ks.getD i 0).toNat := by
    show (crashL m.size m.zs ks).getD i zn0 = _
    rw [List.getD_eq_getElem?_getD, crashL_get m.size m.zs ks i hi]
    rfl
  refine ⟨_, rfl, ?_, ?_, ?_⟩
  · unfold bM fM
    rw [e]
    rfl
  · unfold fM
    rw [e]
    show (m.zs.getD i zn0).f ≤ (m.zs.getD i zn0).f + _
    omega
  · unfold fM bM
    rw [e]
    have := hk.f
    show (m.zs.getD i zn0).f + min _ ((m.zs.getD i zn0).b.length - (m.zs.getD i zn0).f) ≤ _
    omega
theorem crash_zs (m : Dev) (ks : List Int) : (crashM m ks).zs.length = m.zs.length := crashL_length ..
end Go.Proofs.Ytkoebafalbcnbaa
