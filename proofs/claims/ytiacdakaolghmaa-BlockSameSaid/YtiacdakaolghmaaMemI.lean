/-
  A row of integers of the call's own ('RowI'), as 'Row' is one of bytes.
-/
import Derived.Test.YtiacdakaolghmaaMem
namespace Go.Proofs.Ytiacdakaolghmaa
set_option linter.unusedVariables false
open Go.RowKit

abbrev ig (x : Int) : Value := .int .i64 x
def RowI (w : World) (S : Nat → Prop) (v : Value) (l : List Int) : Prop := w.ownsRow 0 3 1 v l.length (l.map ig) ∧ ∀ k, v.ownBlock = some k → S k
theorem RowI.nil (w : World) (S : Nat → Prop) : RowI w S (.slice none 0 0) [] := ⟨World.ownsRow_nil w 0 _ 1, fun k h => by simp [Value.ownBlock] at h⟩
theorem RowI.sub {w : World} {S T : Nat → Prop} {v : Value} {l : List Int} (h : RowI w S v l) (hs : ∀ k, k < w.heap.size → S k → T k) : RowI w T v l := ⟨h.1, fun k hk => hs k (h.1.lt k hk).2 (h.2 k hk)⟩
theorem RowI.keep {w w' : World} {S T : Nat → Prop} {v : Value} {l : List Int} (h : RowI w S v l) (f : Fr T w w') (hn : ∀ k, S k → ¬ T k) : RowI w' S v l := by
  obtain ⟨⟨h1, h2⟩, h3⟩ := h
  refine ⟨⟨h1, ?_⟩, h3⟩
  rcases h2 with h2 | ⟨g, cap, cur, rfl, hb, hg, rest⟩
  · exact .inl h2
  · exact .inr ⟨g, cap, cur, rfl, hb, (f.block g (Array.getElem?_eq_some_iff.1 hg).1 (hn g (h3 g rfl))).trans hg, rest⟩
theorem RowI.form {w : World} {S : Nat → Prop} {v : Value} {l : List Int} (h : RowI w S v l) : ∃ a cap, v = .slice a l.length cap ∧ l.length ≤ cap ∧ cap ≤ maxLen ∧ (0 < l.length → ∃ b o, S b ∧ a = some ⟨b, o, none⟩ ∧ ∀ i, i < l.length → w.cell? ⟨b, o + i, none⟩ = some (.int .i64 (l.getD i 0))) := by
  obtain ⟨⟨h1, h2⟩, h3⟩ := h
  rcases h2 with ⟨rfl, h0⟩ | ⟨g, cap, cur, rfl, hb, hg, hn, hm, hc, ht⟩
  · have : l = [] := List.eq_nil_of_length_eq_zero h0
    subst this
    exact ⟨none, 0, rfl, Nat.le_refl _, by simp [maxLen], fun h => absurd h (by simp)⟩
  · refine ⟨some ⟨g, 0, none⟩, cap, rfl, hn, hm, fun hl => ⟨g, 0, h3 g rfl, rfl, fun i hi => ?_⟩⟩
    rw [Nat.zero_add, cell_of_row w g i cur _ (0, 0) hg]
    have e : cur.toList[i]? = (l.map ig)[i]? := by
      rw [← ht, List.getElem?_take, if_pos (by omega)]
    rw [← Array.getElem?_toList, e]
    simp [List.getD, hi]
theorem RowI.join {S : Nat → Prop} {a b c : World} {v : Value} {l : List Int} (h : RowI c (Gr (Gr S a b) b c) v l) (h1 : a.heap.size ≤ b.heap.size) (h2 : b.heap.size ≤ c.heap.size) : RowI c (Gr S a c) v l :=
  h.sub fun k _ hk => Gr.join h1 h2 k hk
theorem infoI64 : (Try.prog.info? 3).map (fun i => (i.zero, i.size, i.bytes)) = some (some (.int .i64 0), 1, 8) := by kernel_rfl
/-- APPEND OF ONE INTEGER, which lies in a new block of its own. -/
theorem RowI.push {w : World} {S : Nat → Prop} {v : Value} {l : List Int} (h : RowI w S v l) (hS : ∀ k, S k → k < w.heap.size) (x : Int) (hb : l.length < 1000000) :
    ∃ v' w', (Builtin.append_ #[58, 58] 58 #[v, .slice (some ⟨w.heap.size, 0, none⟩) 1 1]).run Try.prog (w.alloc (.cells #[.int .i64 x] 3)) = .ok v' w' ∧ RowI w' (Gr S w w') v' (l ++ [x]) ∧ Fr S w w' := by
  obtain ⟨i0, hi, hz0, hz1, hz2⟩ := info_parts infoI64
  have f := (Fr.refl No w).alloc (.cells #[.int .i64 x] 3)
  have h' := h.keep f fun _ _ h => h
  obtain ⟨v', w', hrun, h2, h3, _, h5⟩ := run_append_own_at (P := Try.prog) (w.alloc (.cells #[.int .i64 x] 3)) 0 58 58 3 i0 (.int .i64 0) 1 8 Try.underlying58 hi hz0 hz1 hz2 rfl (by decide) v l.length (l.map ig) h'.1
    ⟨w.heap.size, 0, none⟩ 1 1 [ig x] rfl (cell_one_new _ _ _) (by simp [Value.oneCell']) (by unfold maxLen; omega) (by omega) (Nat.zero_le _)
  have hf3 := Fr.grown h3 h'.2
  have hsz := f.size
  refine ⟨v', w', hrun, ⟨by rw [List.length_append, List.map_append]; exact h2, fun k hk => ?_⟩, (f.sub fun _ _ h => h.elim).then_ hf3 fun _ _ h => h⟩
  rcases h5 with h5 | h5
  · exact .inl (h.2 k (h5 ▸ hk))
  · rw [h5] at hk
    have hk : (w.alloc (.cells #[.int .i64 x] 3)).heap.size = k := Option.some.inj hk
    have h6 := (h2.lt k (by rw [h5, hk])).2
    exact .inr ⟨by omega, h6⟩
end Go.Proofs.Ytiacdakaolghmaa
