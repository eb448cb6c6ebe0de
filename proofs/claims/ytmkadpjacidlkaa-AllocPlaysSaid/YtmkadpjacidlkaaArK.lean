/-
  Layer 8, the program's own table: a loop whose body turns what the iterator has passed; Rebuild.
-/
import Derived.Test.YtmkadpjacidlkaaArG
import Derived.Test.YtmkadpjacidlkaaArB
import Derived.Test.YtmkadpjacidlkaaArE
import Derived.Test.YtmkadpjacidlkaaArI
namespace Go.Proofs.Ytmkadpjacidlkaa
set_option linter.unusedVariables false
open Go.RowKit Go.Shelf

theorem cell_putLoop {W : World} {l : Nat} {r : Loop} (hl : W.heap[l]? = some (.loop r)) (o : Obj) {p : Addr} {v : Value} (hc : W.cell? p = some v) : (W.putObj l o).cell? p = some v := by
  have hne : p.block ≠ l := fun e => by
    unfold World.cell? at hc
    rw [e, hl] at hc
    simp at hc
  exact (World.cell?_of_block ((grownBy_putObj' W l o).block p.block (cell_block hc) (fun e => hne (Option.some.inj e)))).trans hc
theorem KpZ.loop {g B2 z : Nat} {W : World} {l : Nat} {r : Loop} (hl : W.heap[l]? = some (.loop r)) (o : Obj) : KpZ g B2 z W (W.putObj l o) := ⟨fun _ hv => cell_putLoop hl o hv, fun _ _ _ hv => cell_putLoop hl o hv⟩
theorem KpZ.trans {g B2 z : Nat} {A B C : World} (h : KpZ g B2 z A B) (k : KpZ g B2 z B C) : KpZ g B2 z A C := ⟨fun v hv => k.b v (h.b v hv), fun i hi v hv => k.r i hi v (h.r i hi v hv)⟩
/-- A LOOP OVER THE ZONES OF A ROLE, each round of which goes on. -/
theorem each_zone {gv : Operand} {ps : Array Tmp} {assign body : Code} {Q : Exit → Act → World → Prop} {a : Act} {w : World} {B1 B2 t g : Nat} {r : List Nat} {x : Int} (hs : SeqZ w B1 B2 t g r x) (hr6 : r.length ≤ 64)
    (hg : a.eval gv = seqZ B1 B2) (hps : ps.size = 1) (I : List (Zx r x) → World → Prop) (hI : OwnFrom w.heap.size I) (h0 : I [] w) (a₁ : Zx r x → Act)
    (hassign : ∀ (l : Nat) (z : Zx r x) (W : World) (K : Act → World → Prop), K (a₁ z) W → assign.wpIn (Fence.wide.inRound l) 3 Try.prog (Exit.then K (fun _ _ _ => False)) { tmps := (ps.zip #[Value.int .i64 ((z.val : Nat) : Int)]).foldl (fun t (p, v) => t.setIfInBounds p v) a.tmps, defers := [] } W)
    (hbody : ∀ (l : Nat) (pre : List (Zx r x)) (z : Zx r x) (W : World), I pre W → pre.length < r.length → body.wpIn (Fence.wide.inRound l) 3 Try.prog (Exit.then (fun _ W' => KeepsFrom w.heap.size W W' ∧ KpZ g B2 z.val W W' ∧ I (pre ++ [z]) W') (fun _ _ _ => False)) (a₁ z) W)
    (hdone : ∀ (D : Nat) (W : World), w.heap.size ≤ D → I (zl r x r.length) W → W.heap[D]? = some (.deferred (some [])) → Q .normal { a with defers := { target := .collected D, args := #[] } :: a.defers } W) :
    (Code.rangeFunc gv ps assign body).wpIn Fence.wide 5 Try.prog Q a w := by
  refine wpIn_rangeFunc fun fn hfn => ?_
  obtain ⟨D, hD⟩ : ∃ D, w.heap.size = D := ⟨_, rfl⟩
  obtain ⟨rc, hrc⟩ : ∃ rc : LoopState → Loop, rc = fun st => { state := st, pending := none, fn, tmps := a.tmps, params := ps, assign, body, defers := D } := ⟨_, rfl⟩
  obtain ⟨Wd, hWd⟩ : ∃ W, w.alloc (.deferred (some [])) = W := ⟨_, rfl⟩
  obtain ⟨W1, hW1⟩ : ∃ W, Wd.alloc (.loop (rc .ready)) = W := ⟨_, rfl⟩
  have sd : Wd.heap.size = D + 1 := by rw [← hWd, World.size_alloc, hD]
  have s1 : W1.heap.size = D + 2 := by rw [← hW1, World.size_alloc, sd]
  have hL : W1.heap[D + 1]? = some (.loop (rc .ready)) := by rw [← hW1, ← sd]; exact heap_alloc_new _ _
  have hK : W1.heap[D]? = some (.deferred (some [])) := by
    rw [← hW1, heap_alloc_old _ _ _ (by omega), ← hWd, ← hD]
    exact heap_alloc_new _ _
  have f1 : Fr No w W1 := by rw [← hW1, ← hWd]; exact ((Fr.refl No w).alloc _).alloc _
  have hI1 : I [] W1 := by
    rw [← hW1, ← hWd]
    exact hI.alloc _ (hI.alloc _ h0)
  have hs1 := hs.keep f1
  rw [hD] at hI
  refine ⟨D + 1, [{ target := .collected D, args := #[] }], W1, { target := .fn (.func 42) #[.pointer (some ⟨B1, 0, none⟩), .pointer (some ⟨B2, 0, none⟩)], args := #[.func (.yield (D + 1)) #[] #[]] }, W1, 42,
    #[.func (.yield (D + 1)) #[] #[], .pointer (some ⟨B1, 0, none⟩), .pointer (some ⟨B2, 0, none⟩)], W1, ?_, ?_, ?_, ?_, fun _ => by omega, ?_⟩
  · rw [← hW1, ← hWd, hrc, ← hD]
    exact run_enterLoop_outer _ _ _ _ _
  · simp only [resolve, hg]
    simp [go_sem]
  · intro f' hf'
    trivial
  · have eg : ∀ args w, (callFunc 42 args).run Try.prog w = .ok (.enter 42 args) w := enters_of Try.func42 (by kernel_rfl) rfl
    simp [invoke, go_sem, eg]
  · refine (zones_in 4 (by omega) (D + 1) B1 B2 t g r x hr6 (fun pre W => I pre W ∧ W.heap[D + 1]? = some (.loop (rc .ready)) ∧ W.heap[D]? = some (.deferred (some []))) (fun _ _ => False) ?_ W1 hs1.b1 hs1.b2 hs1.c0 hs1.cr ⟨hI1, hL, hK⟩).mono ?_
    · rintro pre z W ⟨hi, hl, hk⟩ hlen
      have hy := run_yield (P := Try.prog) (args := #[Value.int .i64 ((z.val : Nat) : Int)]) hl (by rw [hrc]; simp [hps])
      rw [hrc] at hy
      refine ⟨fn, _, assign, body, hy, roundIn_of_wpIn hfn (hassign _ z W _ ?_)⟩
      clear hy
      have hb := run_beginRound (P := Try.prog) hl (by rw [hrc])
      refine ⟨_, hb, ?_⟩
      obtain ⟨X, hX⟩ : ∃ X, W.putObj (D + 1) (.loop { rc .ready with state := .busy }) = X := ⟨_, rfl⟩
      rw [hX]
      have hlX : X.heap[D + 1]? = some (.loop (rc .busy)) := by rw [← hX, hrc]; exact World.putObj_heap_same (Array.getElem?_eq_some_iff.1 hl).1
      have hkX : X.heap[D]? = some (.deferred (some [])) := by rw [← hX]; exact (World.putObj_heap_other (by omega)).trans hk
      have hiX : I pre X := by rw [← hX]; exact hI.putObj _ hi (by omega) hl rfl
      have kX : KpZ g B2 z.val W X := by rw [← hX]; exact KpZ.loop hl _
      refine wpIn_mono (hbody _ pre z X hiX hlen) ?_
      intro e a3 Y hp
      cases e with
      | normal =>
        obtain ⟨p1, p2, p3⟩ := hp
        rw [hD] at p1
        have hlY := p1.same _ _ (by omega) hlX rfl
        have hkY := p1.same _ _ (by omega) hkX rfl
        have he := run_endRound (P := Try.prog) none hlY
        refine ⟨_, _, he, .inl ⟨rfl, ⟨hI.putObj _ p3 (by omega) hlY rfl, ?_, (World.putObj_heap_other (by omega)).trans hkY⟩, kX.trans (p2.trans (KpZ.loop hlY _))⟩⟩
        rw [World.putObj_heap_same (Array.getElem?_eq_some_iff.1 hlY).1, hrc]
        rfl
      | ret => exact hp.elim
      | exit id => exact hp.elim
      | goto t => exact hp.elim
      | panic ch => exact hp.elim
      | outgrown => exact hp.elim
    · rintro e W2 ⟨⟨v, rfl⟩, (⟨xs, rfl, hi, hl, hk⟩ | ⟨pre, _, h⟩)⟩
      · have he := run_endLoop (P := Try.prog) hl (by rw [hrc]; simp)
        rw [hrc] at he
        exact ⟨none, _, he, hdone _ _ (by omega) (hI.putObj _ hi (by omega) hl rfl) ((World.putObj_heap_other (by omega)).trans hk)⟩
      · exact h.elim
end Go.Proofs.Ytmkadpjacidlkaa
namespace Go.Proofs.Ytmkadpjacidlkaa
set_option linter.unusedVariables false
open Go.RowKit Go.Shelf
attribute [local go_sem] Oper.semAt_some

/-- A table some of whose left zones are queued. -/
def tbR (b : Tb) (m : Dev) (ps : List Nat) : Tb := { r := (ps.filter (leftT b m)).foldl (fun r z => r.set z 6) b.r, q := b.q ++ ps.filter (leftT b m) }
theorem tbR_nil (b : Tb) (m : Dev) : tbR b m [] = b := by unfold tbR; simp
theorem tbR_yes {b : Tb} {m : Dev} {ps : List Nat} {z : Nat} (h : leftT b m z = true) : tbR b m (ps ++ [z]) = enqT (tbR b m ps) z := by
  unfold tbR enqT
  rw [List.filter_append, List.filter_cons, if_pos h, List.filter_nil, List.foldl_append, List.append_assoc]
  rfl
theorem tbR_no {b : Tb} {m : Dev} {ps : List Nat} {z : Nat} (h : leftT b m z = false) : tbR b m (ps ++ [z]) = tbR b m ps := by
  unfold tbR
  rw [List.filter_append, List.filter_cons, if_neg (by rw [h]; decide), List.filter_nil, List.append_nil]
theorem tbR_len (b : Tb) (m : Dev) (ps : List Nat) : (tbR b m ps).r.length = b.r.length := (fold_six _ _).1
theorem tbR_all (b : Tb) (m : Dev) : tbR b m ((zl b.r 0 b.r.length).map (·.val)) = rebT b m ∧ ((zl b.r 0 b.r.length).map (·.val)).filter (leftT b m) = rebL b m := by
  have e : ((zl b.r 0 b.r.length).map (·.val)).filter (leftT b m) = rebL b m := by
    rw [zl_val b.r 0 b.r.length (Nat.le_refl _), List.filter_filter]
    unfold rebL
    congr 1
    funext z
    unfold leftT
    cases h : (b.r.getD z 0 == 0) with
    | true =>
      rw [beq_iff_eq] at h
      rw [h]
      simp
    | false => simp
  refine ⟨?_, e⟩
  unfold tbR rebT
  rw [e]
theorem left_state {b : Tb} {m : Dev} (z : Zx b.r 0) (hl : m.zs.length = b.r.length) : leftT b m z.val = decide (0 < stateM m ((z.val : Nat) : Int)) := by
  have h2 := z.2
  have h3 : b.r.getD z.val 0 = 0 := by omega
  have hh : hasZ m ((z.val : Nat) : Int) = true := hasZ_iff.2 ⟨by omega, by rw [Int.toNat_natCast, hl]; exact h2.1⟩
  unfold leftT stateM zoneM
  rw [h3, hh, if_pos rfl, Int.toNat_natCast]
  generalize (m.zs.getD z.val zn0).s = s
  cases s with
  | zero => rfl
  | succ s => simp
/-- The boxes of a Rebuild. -/
structure RbS (w : World) (t d : Nat) (n : Int) (W : World) : Prop where
  b0 : At W w.heap.size 23 #[.pointer (some ⟨t, 0, none⟩)]
  b1 : At W (w.heap.size + 1) 26 #[.pointer (some ⟨d, 0, none⟩)]
  b2 : At W (w.heap.size + 1 + 1) 3 #[.int .i64 n]
def w3 (w : World) (t d : Nat) : World := ((w.alloc (.cells #[.pointer (some ⟨t, 0, none⟩)] 23)).alloc (.cells #[.pointer (some ⟨d, 0, none⟩)] 26)).alloc (.cells #[.int .i64 0] 3)
theorem w3_ok (w : World) (t d : Nat) : RbS w t d 0 (w3 w t d) ∧ Fr No w (w3 w t d) ∧ (w3 w t d).heap.size = w.heap.size + 3 := by
  obtain ⟨wa, ha⟩ : ∃ wa, w.alloc (.cells #[.pointer (some ⟨t, 0, none⟩)] 23) = wa := ⟨_, rfl⟩
  obtain ⟨wb, hb⟩ : ∃ wb, wa.alloc (.cells #[.pointer (some ⟨d, 0, none⟩)] 26) = wb := ⟨_, rfl⟩
  obtain ⟨wc, hc⟩ : ∃ wc, wb.alloc (.cells #[.int .i64 0] 3) = wc := ⟨_, rfl⟩
  have sa : wa.heap.size = w.heap.size + 1 := by rw [← ha]; simp
  have sb : wb.heap.size = w.heap.size + 1 + 1 := by rw [← hb, World.size_alloc, sa]
  have sc : wc.heap.size = w.heap.size + 3 := by rw [← hc, World.size_alloc, sb]
  have fa : Fr No w wa := by rw [← ha]; exact (Fr.refl _ _).alloc _
  have fb : Fr No wa wb := by rw [← hb]; exact (Fr.refl _ _).alloc _
  have fc : Fr No wb wc := by rw [← hc]; exact (Fr.refl _ _).alloc _
  have e : w3 w t d = wc := by unfold w3; rw [ha, hb, hc]
  rw [e]
  have k0 : At wa w.heap.size 23 #[.pointer (some ⟨t, 0, none⟩)] := by rw [← ha]; exact At.new _ _ _
  have k1 : At wb wa.heap.size 26 #[.pointer (some ⟨d, 0, none⟩)] := by rw [← hb]; exact At.new _ _ _
  have k2 : At wc wb.heap.size 3 #[.int .i64 0] := by rw [← hc]; exact At.new _ _ _
  rw [sa] at k1
  rw [sb] at k2
  exact ⟨⟨(k0.keep fb (fun h => h)).keep fc (fun h => h), k1.keep fc (fun h => h), k2⟩, (fa.trans fb).trans fc, sc⟩
theorem RbS.keep {w W W' : World} {t d : Nat} {n : Int} {T : Nat → Prop} (h : RbS w t d n W) (f : Fr T W W') (hT : ∀ k, w.heap.size ≤ k → k < w.heap.size + 3 → ¬ T k) : RbS w t d n W' :=
  ⟨h.b0.keep f (hT _ (by omega) (by omega)), h.b1.keep f (hT _ (by omega) (by omega)), h.b2.keep f (hT _ (by omega) (by omega))⟩
theorem RbS.own {w W W' : World} {t d : Nat} {n : Int} {row : Option Nat} {B : Nat} (h : RbS w t d n W) (hg : W.grownBy W' row) (hr : Turns B W row) : RbS w t d n W' := ⟨own_at h.b0 hg hr, own_at h.b1 hg hr, own_at h.b2 hg hr⟩
theorem RbS.put {w W : World} {t d : Nat} {n : Int} (h : RbS w t d n W) (u : Int) : RbS w t d u (W.setCell ⟨w.heap.size + 1 + 1, 0, none⟩ (.int .i64 u)) := by
  have f : Fr (One (w.heap.size + 1 + 1)) W (W.setCell ⟨w.heap.size + 1 + 1, 0, none⟩ (.int .i64 u)) := (Fr.refl (One (w.heap.size + 1 + 1)) W).setCell (p := ⟨w.heap.size + 1 + 1, 0, none⟩) (fun _ => (rfl : w.heap.size + 1 + 1 = w.heap.size + 1 + 1)) _
  exact ⟨h.b0.keep f (fun e => by have : w.heap.size = w.heap.size + 1 + 1 := e; omega), h.b1.keep f (fun e => by have : w.heap.size + 1 = w.heap.size + 1 + 1 := e; omega), h.b2.set_ 0 _⟩
/-- The blocks of a table. -/
def fpT (t g : Nat) (v : Value) : Nat → Prop := fun k => k = t ∨ k = g ∨ v.ownBlock = some k
/-- The table, its roles in block g, its blocks of F, or new since w2. -/
def TaG (w2 W : World) (t g : Nat) (F : Nat → Prop) (b : Tb) : Prop := ∃ (a : Option Addr) (c : Nat), TaAt W t g a c b ∧ ∀ k, fpT t g (.slice a b.q.length c) k → F k ∨ w2.heap.size ≤ k
theorem TaAt.fpLt {W : World} {t g : Nat} {a : Option Addr} {c : Nat} {b : Tb} (h : TaAt W t g a c b) {k : Nat} (hk : fpT t g (.slice a b.q.length c) k) : k < W.heap.size := by
  rcases hk with rfl | rfl | hk
  · exact h.hd.lt
  · exact h.hr.lt
  · exact (h.row.1.lt k hk).2
theorem TaAt.fpCells {W : World} {t g : Nat} {a : Option Addr} {c : Nat} {b : Tb} (h : TaAt W t g a c b) {k : Nat} (hk : fpT t g (.slice a b.q.length c) k) {o : Obj} (ho : W.heap[k]? = some o) : o.isCells = true := by
  rcases hk with rfl | rfl | hk
  · have := h.hd.symm.trans ho
    cases this
    rfl
  · have := h.hr.symm.trans ho
    cases this
    rfl
  · obtain ⟨⟨_, h9⟩, _⟩ := h.row
    rcases h9 with ⟨h9, _⟩ | ⟨gg, cc, cur, h9, _, hg, _⟩
    · rw [h9] at hk
      cases hk
    · rw [h9] at hk
      obtain rfl : gg = k := Option.some.inj hk
      have := hg.symm.trans ho
      cases this
      rfl
theorem TaG.keep {w2 W W' : World} {t g : Nat} {F T : Nat → Prop} {b : Tb} (h : TaG w2 W t g F b) (f : Fr T W W') (hT : ∀ k, F k ∨ w2.heap.size ≤ k → ¬ T k) : TaG w2 W' t g F b := by
  obtain ⟨a, c, h1, h5⟩ := h
  exact ⟨a, c, h1.keep f (hT _ (h5 _ (.inl rfl))) (hT _ (h5 _ (.inr (.inl rfl)))) (fun k hk => hT _ (h5 _ (.inr (.inr hk)))), h5⟩
theorem TaG.own {w2 W W' : World} {t g : Nat} {F : Nat → Prop} {b : Tb} {row : Option Nat} {B : Nat} (h : TaG w2 W t g F b) (hg : W.grownBy W' row) (hr : Turns B W row) : TaG w2 W' t g F b := by
  obtain ⟨a, c, h1, h5⟩ := h
  exact ⟨a, c, ⟨own_at h1.hd hg hr, own_at h1.hr hg hr, h1.ne, own_rowI h1.row hg hr⟩, h5⟩
/-- Behind an enqueue, at the same block of roles. -/
theorem EnqW.at_ {t g k : Nat} {F : Nat → Prop} {b : Tb} {W W' w2 : World} {F0 : Nat → Prop} (h : EnqW t g k F b W W') (hF : ∀ k, F k → F0 k ∨ w2.heap.size ≤ k) (hs : w2.heap.size ≤ W.heap.size) : TaG w2 W' t g F0 (enqT b k) := by
  obtain ⟨h0, g', a, c, h1, h2, h3, h4⟩ := h.ta
  have e := h1.cells.1.symm.trans h.hd
  simp only [Option.some.injEq, Value.slice.injEq, Addr.mk.injEq] at e
  obtain ⟨⟨rfl, _⟩, _⟩ := e
  have up : ∀ k, Gr F W W' k → F0 k ∨ w2.heap.size ≤ k := fun k hk => hk.elim (hF k) (fun h => .inr (by omega))
  refine ⟨a, c, h1, fun k hk => ?_⟩
  rcases hk with rfl | rfl | hk
  · exact up _ h2
  · exact up _ h3
  · exact up _ (h4 k hk)
section
variable {D : World → Nat → (Nat → Prop) → Dev → Prop}
/-- What the rounds of a Rebuild keep. -/
structure RbI (D : World → Nat → (Nat → Prop) → Dev → Prop) (w w2 : World) (t g d : Nat) (F G : Nat → Prop) (b : Tb) (m : Dev) (pre : List (Zx b.r 0)) (W : World) : Prop where
  bx : RbS w t d (((pre.map (·.val)).filter (leftT b m)).length : Int) W
  ta : TaG w2 W t g F (tbR b m (pre.map (·.val)))
  fr : Fr F w W
  sz : w2.heap.size ≤ W.heap.size
  ln : pre.length ≤ 64
theorem own_rbI {w w2 : World} {t g d : Nat} {F G : Nat → Prop} {b : Tb} {m : Dev} (h : w.heap.size ≤ w2.heap.size) : OwnFrom w2.heap.size (RbI D w w2 t g d F G b m) := fun pre W W' row hh hg hr =>
  ⟨hh.bx.own hg hr, hh.ta.own hg hr, own_frF h hh.fr hg hr, Nat.le_trans hh.sz hg.size, hh.ln⟩
set_option maxRecDepth 100000 in
set_option maxHeartbeats 4000000 in
theorem rebuild_c (M : ZoneOK D) {w : World} {t d : Nat} {F G : Nat → Prop} {b : Tb} {m : Dev} (h : Ta w t F b) (hw : WT b) (hD : D w d G m) (hwm : WF m) (hl : m.zs.length = b.r.length) (hj : ∀ k, F k → ¬ G k) :
    Calls Try.prog 16 #[.pointer (some ⟨t, 0, none⟩), .pointer (some ⟨d, 0, none⟩)] w (MoveT Ta t F (rebT b m) (.int .i64 ((rebL b m).length : Int)) w) := by
  have hn64 := hw.n64
  obtain ⟨k1, k2, k3⟩ := w3_ok w t d
  obtain ⟨W3, hW3⟩ : ∃ W, w3 w t d = W := ⟨_, rfl⟩
  rw [hW3] at k1 k2 k3
  have c0 := k1.b0.cell 0
  have c1 := k1.b1.cell 0
  have c2 := k1.b2.cell 0
  simp at c0 c1 c2
  unfold w3 at hW3
  have HW := Lib.hid hW3
  have HT := Lib.hid h
  obtain ⟨h0, g, a, c, h1, h2, h3, h4⟩ := h
  have CZ := Lib.hid (zonesOf_c (h1.keep k2 (fun h => h) (fun h => h) (fun _ _ h => h)) 0)
  have K1 := Lib.hid k1
  have K2 := Lib.hid k2
  have K3 := Lib.hid k3
  have HG : Hid (g < w.heap.size ∧ t < w.heap.size) := Lib.hid ⟨h0 g h3, h0 t h2⟩
  have H1 : Hid (TaAt w t g a c b) := Lib.hid h1
  have HF := Lib.hid (And.intro h0 (And.intro h2 (And.intro h3 h4)))
  have HDV := Lib.hid hD
  have HQ := Lib.hid (q_le hw)
  have HLD := Lib.hid (M.low hD)
  clear k1 k2 k3 h0 h1 h2 h3 h4 hW3 hw hD
  refine (callsIn_wide (n := 5)).1 ?_
  refine callsIn_of_wp_marks Try.func16 rfl trivial ?_ rfl
  simp only [Try.ntmps16, List.size_toArray, List.length_cons, List.length_nil, Nat.reduceAdd, Nat.reduceSub, Array.replicate_succ, Array.replicate_zero, List.push_toArray, List.append_toArray, List.nil_append, List.cons_append]
  refine wpIn_wide.2 ?_
  go_wp2_with fail
  rw [HW.out]
  refine CZ.out.mono ?_
  rintro e w2 ⟨B1, B2, rfl, f2, hs, hb1, hb2⟩
  have HF2 := Lib.hid f2
  have hz2 := f2.size
  rw [K3.out] at hb1 hb2 hz2
  clear f2 CZ
  go_wp2_with fail
  refine (wpIn_wide (n := 5)).1 ?_
  have hf1 := K2.out.trans HF2.out
  have hB2 : B2 < w2.heap.size := cell_block hs.b2
  have hg0 := HG.out.1
  have ht0 := HG.out.2
  refine each_zone hs hn64 rfl rfl (RbI D w w2 t g d F G b m) (own_rbI hf1.size)
    ⟨K1.out.keep HF2.out (fun _ _ _ h => h), ⟨a, c, by rw [List.map_nil, tbR_nil]; exact H1.out.keep hf1 (fun h => h) (fun h => h) (fun _ _ h => h), fun k hk => by
      rw [List.map_nil, tbR_nil] at hk
      rcases hk with rfl | rfl | hk
      · exact .inl HF.out.2.1
      · exact .inl HF.out.2.2.1
      · exact .inl (HF.out.2.2.2 k hk)⟩, hf1.sub (fun _ _ h => h.elim), Nat.le_refl _, by simp⟩
    (fun z => { tmps := #[.pointer (some ⟨t, 0, none⟩), .pointer (some ⟨d, 0, none⟩), .pointer (some ⟨w.heap.size, 0, none⟩), .pointer (some ⟨w.heap.size + 1, 0, none⟩), .int .i64 0, .pointer (some ⟨w.heap.size + 1 + 1, 0, none⟩), .int .i64 ((z.val : Nat) : Int), .pointer (some ⟨t, 0, none⟩), seqZ B1 B2, .int .i64 ((z.val : Nat) : Int), undef, undef, undef, undef, undef, undef, undef, undef, undef, undef], defers := [] }) ?assign ?body ?done
  case assign =>
    intro y z W K hK
    gi_wp2
    exact hK
  case body =>
    rintro y pre z W hI hlen
    have z2 := z.2
    have b0 : W.cell? ⟨w.heap.size, 0, none⟩ = some (.pointer (some ⟨t, 0, none⟩)) := hI.bx.b0.cell 0
    have b1 : W.cell? ⟨w.heap.size + 1, 0, none⟩ = some (.pointer (some ⟨d, 0, none⟩)) := hI.bx.b1.cell 0
    have b2 : W.cell? ⟨w.heap.size + 1 + 1, 0, none⟩ = some (.int .i64 (((pre.map (·.val)).filter (leftT b m)).length : Int)) := hI.bx.b2.cell 0
    have q2 := hI.bx.b2.frozen 0
    have hls := left_state (m := m) z hl
    have CS := Lib.hid (M.state (M.keep HDV.out hI.fr (fun k hg hf => hj k hf hg)) hwm ((z.val : Nat) : Int) (wf_small (by omega) (by omega)))
    have HI := Lib.hid hI
    have HN : Hid ((((pre.map (·.val)).filter (leftT b m)).length) ≤ 64) := Lib.hid (by
      have := List.length_filter_le (leftT b m) (pre.map (·.val))
      rw [List.length_map] at this
      have := hI.ln
      omega)
    obtain ⟨n, hn⟩ : ∃ n, ((pre.map (·.val)).filter (leftT b m)).length = n := ⟨_, rfl⟩
    rw [hn] at b2 HN
    have HNN := Lib.hid hn
    have HLN := Lib.hid (show pre.length < 64 by omega)
    have hBF : ∀ k, w.heap.size ≤ k → k < w.heap.size + 3 → ∀ (T : Nat → Prop), (∀ k, T k → F k ∨ w2.heap.size ≤ k) → ¬ T k := fun k hk hk2 T hT hh => (hT k hh).elim (fun h5 => absurd (HF.out.1 k h5) (by omega)) (fun h5 => by omega)
    have HBF := Lib.hid hBF
    obtain ⟨zv, hzv⟩ : ∃ zv, z.val = zv := ⟨_, rfl⟩
    have HZV := Lib.hid hzv
    cases hlf : leftT b m z.val with
    | false =>
      rw [hlf] at hls
      have d1 := hls.symm
      have HLF := Lib.hid hlf
      rw [hzv] at d1 CS
      rw [hzv]
      clear hI hls hlf hzv hn hBF z2 hlen
      generalize stateM m (zv : Int) = sv at *
      gi_wp2
      refine ⟨trivial, (calls_round CS.out).mono ?_⟩
      rintro e W4 ⟨rfl, f4⟩
      have HF4 := Lib.hid f4
      clear f4
      gi_wp2
      refine ⟨?_, KpZ.of_fr HF4.out (fun h => h) (fun h => h) _, ?_⟩
      · exact ⟨HF4.out.size, fun k o hk ho _ => (HF4.out.block k (Array.getElem?_eq_some_iff.1 ho).1 (fun h => h)).trans ho⟩
      · have h6 := HI.out
        have e1 : (pre ++ [z]).map (·.val) = pre.map (·.val) ++ [z.val] := by simp
        refine ⟨?_, ?_, h6.fr.then_ HF4.out (fun _ _ h => h.elim), Nat.le_trans h6.sz HF4.out.size, ?_⟩
        · rw [e1, List.filter_append, List.filter_cons, HLF.out, if_neg (by decide), List.filter_nil, List.append_nil]
          exact h6.bx.keep HF4.out (fun _ _ _ h => h)
        · rw [e1, tbR_no HLF.out]
          exact h6.ta.keep HF4.out (fun _ _ h => h)
        · have := HLN.out
          rw [List.length_append, List.length_singleton]
          omega
    | true =>
      rw [hlf] at hls
      have d1 := hls.symm
      have HLF := Lib.hid hlf
      have hwn : IntKind.i64.wrap ((n : Int) + 1) = (n : Int) + 1 := by
        have := HN.out
        simp [IntKind.wrap, IntKind.signed, IntKind.bits]
        omega
      have hq8 : (tbR b m (pre.map (·.val))).q.length < 1000000 := by
        have h9 := HQ.out.2
        have h8 := HN.out
        show (b.q ++ (pre.map (·.val)).filter (leftT b m)).length < 1000000
        rw [List.length_append, hn]
        omega
      have CE : Hid (∀ W4 : World, Fr No W W4 → Calls Try.prog 31 #[.pointer (some ⟨t, 0, none⟩), .int .i64 (zv : Int)] W4 fun e W' => e = .returned (.tuple #[]) ∧ ∃ F' : Nat → Prop, EnqW t g zv F' (tbR b m (pre.map (·.val))) W4 W' ∧ (∀ k, F' k → F k ∨ w2.heap.size ≤ k) ∧ (∀ k o, F' k → W4.heap[k]? = some o → o.isCells = true) ∧ At W4 g 3 (igs (tbR b m (pre.map (·.val))).r).toArray) := Lib.hid fun W4 f4 => by
        obtain ⟨a', c', p1, p5⟩ := hI.ta
        have p14 := p1.keep f4 (fun h => h) (fun h => h) (fun _ _ h => h)
        have := enqueue_c (F := fpT t g (.slice a' (tbR b m (pre.map (·.val))).q.length c')) (fun k hk => p14.fpLt hk) p14 (.inl rfl) (.inr (.inl rfl)) (fun k hk => .inr (.inr hk)) zv (by rw [tbR_len, ← hzv]; exact z2.1) hq8
        exact this.mono fun e W' ⟨e1, e2⟩ => ⟨e1, _, e2, p5, fun k o hk ho => p14.fpCells hk ho, p14.hr⟩
      rw [hzv] at d1 CS
      rw [hzv]
      clear hI hls hlf hzv hn hBF z2 hlen hq8
      generalize stateM m (zv : Int) = sv at *
      gi_wp2
      refine ⟨trivial, (calls_round CS.out).mono ?_⟩
      rintro e W4 ⟨rfl, f4⟩
      have HF4 := Lib.hid f4
      have CE4 := Lib.hid (CE.out W4 f4)
      have b0 := f4.cell b0 (fun h => h)
      have b2 := f4.cell b2 (fun h => h)
      clear f4 CE CS
      gi_wp2
      refine ⟨trivial, (calls_round CE4.out).mono ?_⟩
      rintro e W5 ⟨rfl, F', h5, h6, h7, h8⟩
      have b2 := h5.fr.cell b2 (show ¬ F' (w.heap.size + 1 + 1) from HBF.out _ (by omega) (by omega) F' h6)
      have hI := HI.out
      have s4 : w2.heap.size ≤ W4.heap.size := Nat.le_trans hI.sz HF4.out.size
      have bx5 := (hI.bx.keep HF4.out (fun _ _ _ h => h)).keep h5.fr (fun k hk hk2 => HBF.out k hk hk2 F' h6)
      have q5 := bx5.b2.frozen 0
      have ta5 : TaG w2 W5 t g F (enqT (tbR b m (pre.map (·.val))) zv) := h5.at_ h6 s4
      have fB : Fr (fun k => k = w.heap.size + 1 + 1) W5 (W5.setCell ⟨w.heap.size + 1 + 1, 0, none⟩ (.int .i64 ((n : Int) + 1))) := (Fr.refl (fun k => k = w.heap.size + 1 + 1) W5).setCell (p := ⟨w.heap.size + 1 + 1, 0, none⟩) (fun _ => rfl) _
      have ta6 := ta5.keep fB (fun k hk e => hk.elim (fun h9 => absurd (HF.out.1 k h9) (by omega)) (fun h9 => by omega))
      have f45 : Fr F w W5 := (hI.fr.then_ HF4.out (fun _ _ h => h.elim)).then_ h5.fr (fun k hk h9 => (h6 k h9).elim (fun h => h) (fun h => by omega))
      have f46 := f45.setCell (p := ⟨w.heap.size + 1 + 1, 0, none⟩) (fun h => absurd h (by show ¬ (w.heap.size + 1 + 1 < w.heap.size); omega)) (.int .i64 ((n : Int) + 1))
      have kf : KeepsFrom w2.heap.size W (W5.setCell ⟨w.heap.size + 1 + 1, 0, none⟩ (.int .i64 ((n : Int) + 1))) := ⟨by
        have h10 := HF4.out.size
        have h11 := h5.fr.size
        simp [World.setCell]
        omega, fun k o hk ho hc => by
        have e4 := (HF4.out.block k (Array.getElem?_eq_some_iff.1 ho).1 (fun h => h)).trans ho
        have e5 := (h5.fr.block k (Array.getElem?_eq_some_iff.1 e4).1 (fun h9 => by rw [h7 k o h9 e4] at hc; cases hc)).trans e4
        exact (fB.block k (Array.getElem?_eq_some_iff.1 e5).1 (fun e => by omega)).trans e5⟩
      have g5 := h5.ro.keep fB (fun e => by omega)
      have hB2F : ¬ F' B2 := fun h9 => (h6 B2 h9).elim (fun h => absurd (HF.out.1 _ h) (by omega)) (fun h => by omega)
      have kp : KpZ g B2 zv W (W5.setCell ⟨w.heap.size + 1 + 1, 0, none⟩ (.int .i64 ((n : Int) + 1))) := (KpZ.of_fr HF4.out (fun h => h) (fun h => h) zv).trans ⟨fun v hv => fB.cell (h5.fr.cell hv hB2F) (fun e => by have : B2 = w.heap.size + 1 + 1 := e; omega), fun i hi v hv => by
        rw [h8.cell] at hv
        rw [g5.cell, ← hv, List.getElem?_toArray, List.getElem?_toArray, List.getElem?_map, List.getElem?_map, List.getElem?_set_ne (by omega)]⟩
      have HEND : Hid (KeepsFrom w2.heap.size W (W5.setCell ⟨w.heap.size + 1 + 1, 0, none⟩ (.int .i64 ((n : Int) + 1))) ∧ KpZ g B2 zv W (W5.setCell ⟨w.heap.size + 1 + 1, 0, none⟩ (.int .i64 ((n : Int) + 1))) ∧ RbI D w w2 t g d F G b m (pre ++ [z]) (W5.setCell ⟨w.heap.size + 1 + 1, 0, none⟩ (.int .i64 ((n : Int) + 1)))) := Lib.hid ⟨kf, kp, by
        have e1 : (pre ++ [z]).map (·.val) = pre.map (·.val) ++ [z.val] := by simp
        refine ⟨?_, ?_, f46, ?_, ?_⟩
        · rw [e1, List.filter_append, List.filter_cons, HLF.out, if_pos rfl, List.filter_nil, List.length_append, HNN.out, List.length_singleton]
          exact bx5.put _
        · rw [e1, tbR_yes HLF.out, HZV.out]
          exact ta6
        · have h11 := h5.fr.size
          simp [World.setCell]
          omega
        · have := HLN.out
          rw [List.length_append, List.length_singleton]
          omega⟩
      clear hI s4 bx5 ta5 fB ta6 f45 f46 kf g5 hB2F kp h5 h6 h7 h8 CE4
      gi_wp2
      exact HEND.out
  case done =>
    intro D W hD hI hK
    obtain ⟨e1, e2⟩ := tbR_all b m
    have b2 : W.cell? ⟨w.heap.size + 1 + 1, 0, none⟩ = some (.int .i64 ((((zl b.r 0 b.r.length).map (·.val)).filter (leftT b m)).length : Int)) := hI.bx.b2.cell 0
    rw [e2] at b2
    have ta := hI.ta
    rw [e1] at ta
    have HTA := Lib.hid ta
    have HFR := Lib.hid hI.fr
    have hf1s := hf1.size
    clear hI ta e1 e2
    go_wp2_with fail
    refine ⟨by simp, .inl ⟨_, _, rfl, run_takeDeferred hK, ?_⟩⟩
    have hg := grownBy_putObj' W D (.deferred none)
    have hr : Turns w2.heap.size W (some D) := fun r e => by cases e; exact ⟨hD, _, hK, rfl⟩
    obtain ⟨a', c', p1, p2⟩ := HTA.out.own hg hr
    exact ⟨_, results_tmp rfl _ _ _, rfl, _, ⟨fun k hk => p1.fpLt hk, g, a', c', p1, .inl rfl, .inr (.inl rfl), fun k hk => .inr (.inr hk)⟩, fun k hk => (p2 k hk).elim .inl (fun h => .inr ⟨by omega, p1.fpLt hk⟩), own_frF hf1s HFR.out hg hr⟩
end
end Go.Proofs.Ytmkadpjacidlkaa
