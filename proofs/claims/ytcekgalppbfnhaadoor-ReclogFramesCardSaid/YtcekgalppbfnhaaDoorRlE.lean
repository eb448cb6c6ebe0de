/-
  Layer 9: a loop over the frames of bytes; Scan.
-/
import Derived.Test.YtcekgalppbfnhaaDoorRlD
namespace Go.Proofs.YtcekgalppbfnhaaDoor
set_option linter.unusedVariables false
open Go.RowKit Go.Shelf
attribute [local go_sem] Oper.semAt_some

abbrev seqF (X : Nat) : Value := .func (.func 59) #[] #[.pointer (some ⟨X, 0, none⟩)]
set_option maxHeartbeats 400000 in
theorem frames_c (a : Option Addr) (len cap : Nat) (w : World) : Calls Tryd.prog 35 #[.slice a len cap] w fun e w' => e = .returned (seqF w.heap.size) ∧ w.alloc (.cells #[.slice a len cap] 22) = w' := by
  go_enter Tryd.func35, Tryd.ntmps35
  go_wp2_with fail
  go_ret
  exact ⟨rfl, rfl⟩
theorem fr_putObj {W : World} {l : Nat} (o : Obj) : Fr (fun k => k = l) W (W.putObj l o) := Fr.grown (grownBy_putObj' W l o) fun k e => (Option.some.inj e).symm
/-- A LOOP OVER THE FRAMES OF BYTES, each round of which goes on. -/
theorem each_frame {gv : Operand} {ps : Array Tmp} {assign body : Code} {Q : Exit → Act → World → Prop} {a : Act} {w : World} {X : Nat} {ad : Option Addr} {cap : Nat} {b : List UInt8} (hb : b.length ≤ 100000) (hbc : b.length ≤ cap) (T0 : Nat → Prop)
    (c0 : w.cell? ⟨X, 0, none⟩ = some (.slice ad b.length cap)) (x0 : ¬ T0 X) (hr : In w (fun k => ¬ T0 k) ad b) (ht : Tab w) (t0 : ¬ T0 0) (hT : ∀ k, T0 k → k < w.heap.size)
    (hg : a.eval gv = seqF X) (hps : ps.size = 2) (I : Nat → List Tx → World → Prop) (hI : ∀ Br, OwnFrom w.heap.size (I Br)) (hI2 : ∀ (Br : Nat) (pre : List Tx) (W1 W' : World), I Br pre W1 → w.heap.size ≤ Br → Fr (One Br) W1 W' → I Br pre W')
    (h0 : ∀ Br, w.heap.size ≤ Br → I Br [] w) (a₁ : Nat → Tx → Act)
    (hassign : ∀ (l en : Nat) (x : Tx) (W : World) (K : Act → World → Prop), K (a₁ en x) W → assign.wpIn (Fence.wide.inRound l) 3 Tryd.prog (Exit.then K (fun _ _ _ => False)) { tmps := (ps.zip #[Value.int .i64 (en : Int), .slice x.a x.b.length x.c]).foldl (fun t (p, v) => t.setIfInBounds p v) a.tmps, defers := [] } W)
    (hbody : ∀ (l Br : Nat) (pre : List Tx) (x : Tx) (W : World), I Br pre W → w.heap.size ≤ Br → Br < W.heap.size → pre.length ≤ b.length → In W (fun k => w.heap.size ≤ k ∧ k < Br) x.a x.b →
      body.wpIn (Fence.wide.inRound l) 3 Tryd.prog (Exit.then (fun _ W' => KeepsFrom w.heap.size W W' ∧ Fr (fun k => T0 k ∨ Br < k) W W' ∧ I Br (pre ++ [x]) W') (fun _ _ _ => False)) (a₁ (framesL ((pre ++ [x]).map Tx.b)).length x) W)
    (hdone : ∀ (D Br : Nat) (xs : List Tx) (W : World), w.heap.size ≤ D → w.heap.size ≤ Br → xs.map Tx.b = scanL b → I Br xs W → W.heap[D]? = some (.deferred (some [])) → Q .normal { a with defers := { target := .collected D, args := #[] } :: a.defers } W) :
    (Code.rangeFunc gv ps assign body).wpIn Fence.wide 5 Tryd.prog Q a w := by
  refine wpIn_rangeFunc fun fn hfn => ?_
  obtain ⟨D, hD⟩ : ∃ D, w.heap.size = D := ⟨_, rfl⟩
  obtain ⟨rc, hrc⟩ : ∃ rc : LoopState → Loop, rc = fun st => { state := st, pending := none, fn, tmps := a.tmps, params := ps, assign, body, defers := D } := ⟨_, rfl⟩
  obtain ⟨Wd, hWd⟩ : ∃ W, w.alloc (.deferred (some [])) = W := ⟨_, rfl⟩
  obtain ⟨W1, hW1⟩ : ∃ W, Wd.alloc (.loop (rc .ready)) = W := ⟨_, rfl⟩
  have sd : Wd.heap.size = D + 1 := by rw [← hWd, World.size_alloc, hD]
  have s1 : W1.heap.size = D + 2 := by rw [← hW1, World.size_alloc, sd]
  have hL : W1.heap[D + 1]? = some (.loop (rc .ready)) := by rw [← hW1, ← sd]; exact heap_alloc_new _ _
  have hK : W1.heap[D]? = some (.deferred (some [])) := by
    rw [← hW1, heap_alloc_old _ _ _ (by omega), ← hWd, ← hD]
    exact heap_alloc_new _ _
  have f1 : Fr No w W1 := by rw [← hW1, ← hWd]; exact ((Fr.refl No w).alloc _).alloc _
  have hI1 : ∀ Br, D ≤ Br → I Br [] W1 := fun Br hBr => by
    rw [← hW1, ← hWd]
    exact (hI Br).alloc _ ((hI Br).alloc _ (h0 Br (by omega)))
  rw [hD] at hI hI2 hT hbody hdone
  have hXlt : X < D := by rw [← hD]; exact cell_block c0
  refine ⟨D + 1, [{ target := .collected D, args := #[] }], W1, { target := .fn (.func 59) #[.pointer (some ⟨X, 0, none⟩)], args := #[.func (.yield (D + 1)) #[] #[]] }, W1, 59,
    #[.func (.yield (D + 1)) #[] #[], .pointer (some ⟨X, 0, none⟩)], W1, ?_, ?_, ?_, ?_, fun _ => by omega, ?_⟩
  · rw [← hW1, ← hWd, hrc, ← hD]
    exact run_enterLoop_outer _ _ _ _ _
  · simp only [resolve, hg]
    simp [go_sem]
  · intro f' hf'
    trivial
  · have eg : ∀ args w, (callFunc 59 args).run Tryd.prog w = .ok (.enter 59 args) w := enters_of Tryd.func59 (by kernel_rfl) rfl
    simp [invoke, go_sem, eg]
  · refine (frames_in 4 (by omega) (D + 1) X ad cap b hb hbc (fun k => T0 k ∨ k = D + 1) (fun Br pre W => I Br pre W ∧ W.heap[D + 1]? = some (.loop (rc .ready)) ∧ W.heap[D]? = some (.deferred (some []))) W1 ?_ ?_ (f1.cell c0 (fun h => h)) (fun h => h.elim x0 fun h => by omega)
      ((hr.sub (T := fun k => ¬ T0 k ∧ k < D) fun k hk h => ⟨h, by omega⟩).keep f1 (fun _ _ h => h) |>.sub fun k _ hk h => h.elim hk.1 fun h => by have := hk.2; omega) (ht.keep f1 (fun h => h)) (fun h => h.elim t0 fun h => by
        have q := cell_block (ht 0 (by omega))
        rw [hD] at q
        have q : 0 < D := q
        omega) (fun k hk => by
        rcases hk with hk | rfl
        · have := hT k hk
          omega
        · omega) (fun Br hBr => ⟨hI1 Br (by omega), hL, hK⟩)).mono ?_
    · rintro Br pre x W ⟨hi, hl, hk⟩ hBr hBrW hlen hin
      have hy := run_yield (P := Tryd.prog) (args := #[Value.int .i64 ((framesL ((pre ++ [x]).map Tx.b)).length : Int), .slice x.a x.b.length x.c]) hl (by rw [hrc]; simp [hps])
      rw [hrc] at hy
      refine ⟨fn, _, assign, body, hy, roundIn_of_wpIn hfn (hassign _ _ x W _ ?_)⟩
      clear hy
      have hbg := run_beginRound (P := Tryd.prog) hl (by rw [hrc])
      refine ⟨_, hbg, ?_⟩
      obtain ⟨Z, hZ⟩ : ∃ X, W.putObj (D + 1) (.loop { rc .ready with state := .busy }) = X := ⟨_, rfl⟩
      rw [hZ]
      have hlZ : Z.heap[D + 1]? = some (.loop (rc .busy)) := by rw [← hZ, hrc]; exact World.putObj_heap_same (Array.getElem?_eq_some_iff.1 hl).1
      have hkZ : Z.heap[D]? = some (.deferred (some [])) := by rw [← hZ]; exact (World.putObj_heap_other (by omega)).trans hk
      have hiZ : I Br pre Z := by rw [← hZ]; exact (hI Br).putObj _ hi (by omega) hl rfl
      have kZ : Fr (fun k => k = D + 1) W Z := by rw [← hZ]; exact fr_putObj _
      have inZ : In Z (fun k => D ≤ k ∧ k < Br) x.a x.b := by
        have q : In W (fun k => D + 2 ≤ k ∧ k < Br) x.a x.b := hin.sub fun k _ hk => ⟨by have := hk.1; omega, hk.2⟩
        exact (q.keep kZ fun k hk h => by have := hk.1; omega).sub fun k _ hk => ⟨by have := hk.1; omega, hk.2⟩
      refine wpIn_mono (hbody _ Br pre x Z hiZ (by omega) (Nat.lt_of_lt_of_le hBrW kZ.size) hlen inZ) ?_
      intro e a3 Y hp
      cases e with
      | normal =>
        obtain ⟨p1, p2, p3⟩ := hp
        have hlY := p1.same _ _ (by omega) hlZ rfl
        have hkY := p1.same _ _ (by omega) hkZ rfl
        have he := run_endRound (P := Tryd.prog) none hlY
        refine ⟨_, _, he, rfl, ⟨(hI Br).putObj _ p3 (by omega) hlY rfl, ?_, (World.putObj_heap_other (by omega)).trans hkY⟩, ?_⟩
        · rw [World.putObj_heap_same (Array.getElem?_eq_some_iff.1 hlY).1, hrc]
          rfl
        · exact ((kZ.sub (T := fun k => (T0 k ∨ k = D + 1) ∨ Br < k) fun k _ h => .inl (.inr h)).then_ p2 fun k _ h => h.elim (fun h => .inl (.inl h)) .inr).then_ (fr_putObj _) fun k _ h => .inl (.inr h)
      | ret => exact hp.elim
      | exit id => exact hp.elim
      | goto t => exact hp.elim
      | panic ch => exact hp.elim
      | outgrown => exact hp.elim
    · rintro Br pre Wa Wb ⟨hi, hl, hk⟩ hBr f
      have n1 : ¬ One Br (D + 1) := fun h => by have h : D + 1 = Br := h; omega
      have n0 : ¬ One Br D := fun h => by have h : D = Br := h; omega
      exact ⟨hI2 Br pre Wa Wb hi (by omega) f, (f.block _ (Array.getElem?_eq_some_iff.1 hl).1 n1).trans hl, (f.block _ (Array.getElem?_eq_some_iff.1 hk).1 n0).trans hk⟩
    · rintro e W2 ⟨⟨v, rfl⟩, Br, xs, hBr, hxs, hi, hl, hk⟩
      have he := run_endLoop (P := Tryd.prog) hl (by rw [hrc]; simp)
      rw [hrc] at he
      exact ⟨none, _, he, hdone D Br xs _ (by omega) (by omega) hxs ((hI Br).putObj _ hi (by omega) hl rfl) ((World.putObj_heap_other (by omega)).trans hk)⟩
end Go.Proofs.YtcekgalppbfnhaaDoor
