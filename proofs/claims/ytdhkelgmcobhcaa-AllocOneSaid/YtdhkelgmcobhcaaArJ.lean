/-
  Layer 8, the program's own table: a loop over the zones of a role whose body may turn the roles of zones that were passed.
-/
import Derived.Test.YtdhkelgmcobhcaaArG
namespace Go.Proofs.Ytdhkelgmcobhcaa
set_option linter.unusedVariables false
open Go.RowKit Go.Shelf

theorem cell_putLoop {W : World} {l : Nat} {r : Loop} (hl : W.heap[l]? = some (.loop r)) (o : Obj) {p : Addr} {v : Value} (hc : W.cell? p = some v) : (W.putObj l o).cell? p = some v := by
  have hne : p.block ≠ l := fun e => by
    unfold World.cell? at hc
    rw [e, hl] at hc
    simp at hc
  exact (World.cell?_of_block ((grownBy_putObj' W l o).block p.block (cell_block hc) (fun e => hne (Option.some.inj e)))).trans hc
theorem KpZ.loop {g B2 z : Nat} {W : World} {l : Nat} {r : Loop} (hl : W.heap[l]? = some (.loop r)) (o : Obj) : KpZ g B2 z W (W.putObj l o) := ⟨fun _ hv => cell_putLoop hl o hv, fun _ _ _ hv => cell_putLoop hl o hv⟩
theorem KpZ.trans {g B2 z : Nat} {A B C : World} (h : KpZ g B2 z A B) (k : KpZ g B2 z B C) : KpZ g B2 z A C := ⟨fun v hv => k.b v (h.b v hv), fun i hi v hv => k.r i hi v (h.r i hi v hv)⟩
/-- A LOOP OVER THE ZONES OF A ROLE, each round of which goes on. -/
theorem each_zone {gv : Operand} {ps : Array Tmp} {assign body : Code} {Q : Exit → Act → World → Prop} {a : Act} {w : World} {B1 B2 t g : Nat} {r : List Nat} {x : Int} (hs : SeqZ w B1 B2 t g r x) (hr6 : r.length ≤ 64)
    (hg : a.eval gv = seqZ B1 B2) (hps : ps.size = 1) (I : List (Zx r x) → World → Prop) (hI : OwnFrom w.heap.size I) (h0 : I [] w) (a₁ : Zx r x → Act)
    (hassign : ∀ (l : Nat) (z : Zx r x) (W : World) (K : Act → World → Prop), K (a₁ z) W → assign.wpIn (Fence.wide.inRound l) 3 Try.prog (Exit.then K (fun _ _ _ => False)) { tmps := (ps.zip #[Value.int .i64 ((z.val : Nat) : Int)]).foldl (fun t (p, v) => t.setIfInBounds p v) a.tmps, defers := [] } W)
    (hbody : ∀ (l : Nat) (pre : List (Zx r x)) (z : Zx r x) (W : World), I pre W → pre.length < r.length → body.wpIn (Fence.wide.inRound l) 3 Try.prog (Exit.then (fun _ W' => KeepsFrom w.heap.size W W' ∧ KpZ g B2 z.val W W' ∧ I (pre ++ [z]) W') (fun _ _ _ => False)) (a₁ z) W)
    (hdone : ∀ (D : Nat) (W : World), w.heap.size ≤ D → I (zl r x r.length) W → W.heap[D]? = some (.deferred (some [])) → Q .normal { a with defers := { target := .collected D, args := #[] } :: a.defers } W) :
    (Code.rangeFunc gv ps assign body).wpIn Fence.wide 5 Try.prog Q a w := by
  refine wpIn_rangeFunc fun fn hfn => ?_
  obtain ⟨D, hD⟩ : ∃ D, w.heap.size = D := ⟨_, rfl⟩
  obtain ⟨rc, hrc⟩ : ∃ rc : LoopState → Loop, rc = fun st => { state := st, pending := none, fn, tmps := a.tmps, params := ps, assign, body, defers := D } := ⟨_, rfl⟩
  obtain ⟨Wd, hWd⟩ : ∃ W, w.alloc (.deferred (some [])) = W := ⟨_, rfl⟩
  obtain ⟨W1, hW1⟩ : ∃ W, Wd.alloc (.loop (rc .ready)) = W := ⟨_, rfl⟩
  have sd : Wd.heap.size = D + 1 := by rw [← hWd, World.size_alloc, hD]
  have s1 : W1.heap.size = D + 2 := by rw [← hW1, World.size_alloc, sd]
  have hL : W1.heap[D + 1]? = some (.loop (rc .ready)) := by rw [← hW1, ← sd]; exact heap_alloc_new _ _
  have hK : W1.heap[D]? = some (.deferred (some [])) := by
    rw [← hW1, heap_alloc_old _ _ _ (by omega), ← hWd, ← hD]
    exact heap_alloc_new _ _
  have f1 : Fr No w W1 := by rw [← hW1, ← hWd]; exact ((Fr.refl No w).alloc _).alloc _
  have hI1 : I [] W1 := by
    rw [← hW1, ← hWd]
    exact hI.alloc _ (hI.alloc _ h0)
  have hs1 := hs.keep f1
  rw [hD] at hI
  refine ⟨D + 1, [{ target := .collected D, args := #[] }], W1, { target := .fn (.func 46) #[.pointer (some ⟨B1, 0, none⟩), .pointer (some ⟨B2, 0, none⟩)], args := #[.func (.yield (D + 1)) #[] #[]] }, W1, 46,
    #[.func (.yield (D + 1)) #[] #[], .pointer (some ⟨B1, 0, none⟩), .pointer (some ⟨B2, 0, none⟩)], W1, ?_, ?_, ?_, ?_, fun _ => by omega, ?_⟩
  · rw [← hW1, ← hWd, hrc, ← hD]
    exact run_enterLoop_outer _ _ _ _ _
  · simp only [resolve, hg]
    simp [go_sem]
  · intro f' hf'
    trivial
  · have eg : ∀ args w, (callFunc 46 args).run Try.prog w = .ok (.enter 46 args) w := enters_of Try.func46 (by kernel_rfl) rfl
    simp [invoke, go_sem, eg]
  · refine (zones_in 4 (by omega) (D + 1) B1 B2 t g r x hr6 (fun pre W => I pre W ∧ W.heap[D + 1]? = some (.loop (rc .ready)) ∧ W.heap[D]? = some (.deferred (some []))) (fun _ _ => False) ?_ W1 hs1.b1 hs1.b2 hs1.c0 hs1.cr ⟨hI1, hL, hK⟩).mono ?_
    · rintro pre z W ⟨hi, hl, hk⟩ hlen
      have hy := run_yield (P := Try.prog) (args := #[Value.int .i64 ((z.val : Nat) : Int)]) hl (by rw [hrc]; simp [hps])
      rw [hrc] at hy
      refine ⟨fn, _, assign, body, hy, roundIn_of_wpIn hfn (hassign _ z W _ ?_)⟩
      clear hy
      have hb := run_beginRound (P := Try.prog) hl (by rw [hrc])
      refine ⟨_, hb, ?_⟩
      obtain ⟨X, hX⟩ : ∃ X, W.putObj (D + 1) (.loop { rc .ready with state := .busy }) = X := ⟨_, rfl⟩
      rw [hX]
      have hlX : X.heap[D + 1]? = some (.loop (rc .busy)) := by rw [← hX, hrc]; exact World.putObj_heap_same (Array.getElem?_eq_some_iff.1 hl).1
      have hkX : X.heap[D]? = some (.deferred (some [])) := by rw [← hX]; exact (World.putObj_heap_other (by omega)).trans hk
      have hiX : I pre X := by rw [← hX]; exact hI.putObj _ hi (by omega) hl rfl
      have kX : KpZ g B2 z.val W X := by rw [← hX]; exact KpZ.loop hl _
      refine wpIn_mono (hbody _ pre z X hiX hlen) ?_
      intro e a3 Y hp
      cases e with
      | normal =>
        obtain ⟨p1, p2, p3⟩ := hp
        rw [hD] at p1
        have hlY := p1.same _ _ (by omega) hlX rfl
        have hkY := p1.same _ _ (by omega) hkX rfl
        have he := run_endRound (P := Try.prog) none hlY
        refine ⟨_, _, he, .inl ⟨rfl, ⟨hI.putObj _ p3 (by omega) hlY rfl, ?_, (World.putObj_heap_other (by omega)).trans hkY⟩, kX.trans (p2.trans (KpZ.loop hlY _))⟩⟩
        rw [World.putObj_heap_same (Array.getElem?_eq_some_iff.1 hlY).1, hrc]
        rfl
      | ret => exact hp.elim
      | exit id => exact hp.elim
      | goto t => exact hp.elim
      | panic ch => exact hp.elim
      | outgrown => exact hp.elim
    · rintro e W2 ⟨⟨v, rfl⟩, (⟨xs, rfl, hi, hl, hk⟩ | ⟨pre, _, h⟩)⟩
      · have he := run_endLoop (P := Try.prog) hl (by rw [hrc]; simp)
        rw [hrc] at he
        exact ⟨none, _, he, hdone _ _ (by omega) (hI.putObj _ hi (by omega) hl rfl) ((World.putObj_heap_other (by omega)).trans hk)⟩
      · exact h.elim
end Go.Proofs.Ytdhkelgmcobhcaa
