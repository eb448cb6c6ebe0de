/-
  Layer 7, the program's own device: one zone put anew in memory.
-/
import Derived.Test.YtmkadpjacidlkaaZrB
namespace Go.Proofs.Ytmkadpjacidlkaa
set_option linter.unusedVariables false
open Go.RowKit

theorem zset_same {α : Type} {l : List α} {i : Nat} {v : α} (h : l[i]? = some v) : l.set i v = l := by
  apply List.ext_getElem?
  intro j
  rw [List.getElem?_set]
  split
  · rename_i e
    subst e
    split
    · rw [h]
    · rename_i h2
      rw [List.getElem?_eq_none (by omega)]
  · rfl
theorem zsC_012 (xs : List Zm) (k : Nat) (x : Zm) : (zsC (xs.set k x)).toArray = (((zsC xs).toArray.setIfInBounds (k * 3) (.slice x.a x.z.b.length x.c)).setIfInBounds (k * 3 + 1) (.int .i64 (x.z.f : Int))).setIfInBounds (k * 3 + 2) (.int .i64 (x.z.s : Int)) := by
  rw [zsC_set]
  simp
theorem zsC_102 (xs : List Zm) (k : Nat) (x : Zm) : (zsC (xs.set k x)).toArray = (((zsC xs).toArray.setIfInBounds (k * 3 + 1) (.int .i64 (x.z.f : Int))).setIfInBounds (k * 3) (.slice x.a x.z.b.length x.c)).setIfInBounds (k * 3 + 2) (.int .i64 (x.z.s : Int)) := by
  rw [zsC_set, List.set_comm _ _ (show k * 3 ≠ k * 3 + 1 by omega)]
  simp
theorem zsC_10 {xs : List Zm} {k : Nat} {x : Zm} (hx : xs[k]? = some x) (x' : Zm) (hs : x'.z.s = x.z.s) : (zsC (xs.set k x')).toArray = ((zsC xs).toArray.setIfInBounds (k * 3 + 1) (.int .i64 (x'.z.f : Int))).setIfInBounds (k * 3) (.slice x'.a x'.z.b.length x'.c) := by
  obtain ⟨h0, h1, h2⟩ := zsC_get xs k x hx
  rw [zsC_set, hs, List.set_comm _ _ (show k * 3 ≠ k * 3 + 1 by omega), List.set_comm _ _ (show k * 3 ≠ k * 3 + 2 by omega), List.set_comm _ _ (show k * 3 + 1 ≠ k * 3 + 2 by omega), zset_same h2]
  simp
theorem zsC_02 {xs : List Zm} {k : Nat} {x : Zm} (hx : xs[k]? = some x) (x' : Zm) (hs : x'.z.f = x.z.f) : (zsC (xs.set k x')).toArray = ((zsC xs).toArray.setIfInBounds (k * 3) (.slice x'.a x'.z.b.length x'.c)).setIfInBounds (k * 3 + 2) (.int .i64 (x'.z.s : Int)) := by
  obtain ⟨h0, h1, h2⟩ := zsC_get xs k x hx
  rw [zsC_set, hs, List.set_comm _ _ (show k * 3 ≠ k * 3 + 1 by omega), zset_same h1]
  simp
theorem zsC_2 {xs : List Zm} {k : Nat} {x : Zm} (hx : xs[k]? = some x) (s : Nat) : (zsC (xs.set k { x with z := { x.z with s := s } })).toArray = (zsC xs).toArray.setIfInBounds (k * 3 + 2) (.int .i64 (s : Int)) := by
  obtain ⟨h0, h1, h2⟩ := zsC_get xs k x hx
  rw [zsC_set]
  show ((((zsC xs).set (k * 3) (.slice x.a x.z.b.length x.c)).set (k * 3 + 1) (.int .i64 (x.z.f : Int))).set (k * 3 + 2) (.int .i64 (s : Int))).toArray = _
  rw [zset_same h0, zset_same h1]
  simp
theorem zsC_1 {xs : List Zm} {k : Nat} {x : Zm} (hx : xs[k]? = some x) (f : Nat) : (zsC (xs.set k { x with z := { x.z with f := f } })).toArray = (zsC xs).toArray.setIfInBounds (k * 3 + 1) (.int .i64 (f : Int)) := by
  obtain ⟨h0, h1, h2⟩ := zsC_get xs k x hx
  rw [zsC_set]
  show ((((zsC xs).set (k * 3) (.slice x.a x.z.b.length x.c)).set (k * 3 + 1) (.int .i64 (f : Int))).set (k * 3 + 2) (.int .i64 (x.z.s : Int))).toArray = _
  rw [zset_same h0, List.set_comm _ _ (show k * 3 + 1 ≠ k * 3 + 2 by omega), zset_same h2]
  simp
/-- The zone's own block. -/
def Own (x : Zm) : Nat → Prop := fun b => x.g = some b
theorem DzAt.own {w : World} {d zb : Nat} {xs : List Zm} {m : Dev} {ar : Bool} {lf : Int} (h : DzAt w d zb xs m ar lf) {k : Nat} {x : Zm} (hx : xs[k]? = some x) : ¬ Own x d ∧ ¬ Own x zb ∧ ∀ b, Own x b → b < w.heap.size :=
  ⟨fun e => ((h.row k x hx).2 d e).1 rfl, fun e => ((h.row k x hx).2 zb e).2 rfl, fun b hb => ((h.row k x hx).block hb).2⟩
/-- ONE ZONE ANEW: its row may have moved ahead (w to w1), then the zones' block has turned (w1 to w'). -/
theorem DzAt.put {w w1 w' : World} {d zb : Nat} {xs : List Zm} {m : Dev} {ar : Bool} {lf : Int} (h : DzAt w d zb xs m ar lf) {k : Nat} {x x' : Zm} (hx : xs[k]? = some x) (f1 : Fr (Own x) w w1)
    (hr : Row w1 (fun b => Own x b ∨ w.heap.size ≤ b) (.slice x'.a x'.z.b.length x'.c) x'.z.b) (f2 : Fr (One zb) w1 w') (hz : At w' zb 67 (zsC (xs.set k x')).toArray) :
    DzAt w' d zb (xs.set k x') (setZ m k x'.z) ar lf := by
  obtain ⟨od, oz, ol⟩ := h.own hx
  have hk : k < xs.length := by
    rcases Nat.lt_or_ge k xs.length with h' | h'
    · exact h'
    · rw [List.getElem?_eq_none h'] at hx; cases hx
  refine ⟨?_, hz, h.ne, ?_, h.arm, fun i y hy => ?_, fun i j y y' b hy hy' hb hb' => ?_⟩
  · rw [show (setZ m k x'.z).zs.length = m.zs.length by simp [setZ]]
    exact (h.hd.keep f1 od).keep f2 (fun e => h.ne (show d = zb from e))
  · show (xs.set k x').map Zm.z = m.zs.set _ _
    rw [List.map_set, h.mz]
    rfl
  · rw [List.getElem?_set] at hy
    split at hy
    · rename_i e
      subst e
      obtain rfl := Option.some.inj hy
      have hn : ∀ b, (Own x b ∨ w.heap.size ≤ b) → b ≠ d ∧ b ≠ zb := fun b hb => by
        rcases hb with hb | hb
        · exact (h.row _ x hx).2 b hb
        · have := h.hd.lt
          have := h.hz.lt
          omega
      exact (hr.keep f2 (fun b hb e => (hn b hb).2 e)).sub fun b _ hb => hn b hb
    · rename_i e
      have hry := h.row i y hy
      have : Row w (Own y) (.slice y.a y.z.b.length y.c) y.z.b := ⟨hry.1, fun b hb => hb⟩
      have r1 := this.keep f1 (fun b hb hb' => e (h.two k i x y b hx hy hb' hb))
      exact (r1.keep f2 (fun b hb e => ((hry.2 b hb).2 e))).sub fun b _ hb => hry.2 b hb
  · rw [List.getElem?_set] at hy hy'
    split at hy
    · rename_i e
      subst e
      split at hy'
      · rename_i e
        exact e
      · rename_i e
        obtain rfl := Option.some.inj hy
        rcases hr.2 b hb with h3 | h3
        · exact h.two k j x y' b hx hy' h3 hb'
        · exact absurd ((h.own hy').2.2 b hb') (by omega)
    · rename_i e
      split at hy'
      · rename_i e'
        subst e'
        obtain rfl := Option.some.inj hy'
        rcases hr.2 b hb' with h3 | h3
        · exact h.two i k y x b hy hx hb h3
        · exact absurd ((h.own hy).2.2 b hb) (by omega)
      · exact h.two i j y y' b hy hy' hb hb'
theorem Dz.put {w w1 w' : World} {d : Nat} {F : Nat → Prop} {m : Dev} {zb : Nat} {xs : List Zm} {ar : Bool} {lf : Int} (h0 : ∀ k, F k → k < w.heap.size) (h : DzAt w d zb xs m ar lf) (hF : F d ∧ F zb ∧ ∀ x ∈ xs, ∀ k, x.g = some k → F k)
    {k : Nat} {x x' : Zm} (hx : xs[k]? = some x) (f1 : Fr (Own x) w w1) (hr : Row w1 (fun b => Own x b ∨ w.heap.size ≤ b) (.slice x'.a x'.z.b.length x'.c) x'.z.b) (f2 : Fr (One zb) w1 w') (hz : At w' zb 67 (zsC (xs.set k x')).toArray) :
    Dz w' d (Gr F w w') (setZ m k x'.z) ∧ Fr F w w' ∧ ∀ i : Nat, w'.cell? ⟨d, i, none⟩ = w.cell? ⟨d, i, none⟩ := by
  have hsz : w.heap.size ≤ w'.heap.size := Nat.le_trans f1.size f2.size
  refine ⟨⟨fun b hb => ?_, zb, xs.set k x', ar, lf, h.put hx f1 hr f2 hz, .inl hF.1, .inl hF.2.1, fun y hy b hb => ?_⟩, (f1.sub fun b _ hb => hF.2.2 x (List.mem_of_getElem? hx) b hb).then_ f2 fun b _ hb => by rw [show b = zb from hb]; exact hF.2.1, fun i => (World.cell?_of_block (f2.block d (Nat.lt_of_lt_of_le h.hd.lt f1.size) (fun e => h.ne (show d = zb from e)))).trans (World.cell?_of_block (f1.block d h.hd.lt (h.own hx).1))⟩
  · rcases hb with hb | hb
    · exact Nat.lt_of_lt_of_le (h0 b hb) hsz
    · exact hb.2
  · rcases List.mem_or_eq_of_mem_set hy with h1 | rfl
    · exact .inl (hF.2.2 y h1 b hb)
    · rcases hr.2 b hb with h3 | h3
      · exact .inl (hF.2.2 x (List.mem_of_getElem? hx) b h3)
      · exact .inr ⟨h3, Nat.lt_of_lt_of_le (hr.block hb).2 f2.size⟩
end Go.Proofs.Ytmkadpjacidlkaa
