/-
  Texts of layer 14 and of what it stands on, one behind the other.
-/
import Derived.Test.YtihahckjcedceaaDoorMg31
import Derived.Lib.SlBytesConst

/- Layer 9: what the statements' fixed answer is. -/
namespace Go.Proofs.YtihahckjcedceaaDoor
set_option linter.unusedVariables false
open Go.RowKit

theorem In.new (w : World) (C : Array Value) (t : TypeId) (fr : Nat × Nat) (l : List UInt8) (hC : C = (l.map byt).toArray) : In (w.alloc (.cells C t fr)) (One w.heap.size) (some ⟨w.heap.size, 0, none⟩) l := fun hl => by
  subst hC
  refine ⟨_, _, rfl, rfl, fun i hi => ?_⟩
  rw [Nat.zero_add, cell_of_row _ _ i _ t fr (heap_alloc_new w _)]
  simp [List.getD, hi]
theorem Ask.post {w : World} {e : Ending} {w' : World} (h : Ask (.bool true) w e w') : e = .returned (.bool true) ∧ Below w.heap.size w w' := ⟨h.1, h.2.below (Nat.le_refl _) (fun _ h => h.elim)⟩
theorem NewRow.from {l : List UInt8} {w w1 : World} {e : Ending} {w' : World} (f : Fr No w w1) (h : NewRow l w1 e w') : NewRow l w e w' := by
  obtain ⟨v, h1, h2, h3⟩ := h
  exact ⟨v, h1, h2.sub fun k _ hk => hk.elim (fun h => h.elim) fun h => .inr ⟨Nat.le_trans f.size h.1, h.2⟩, f.trans h3⟩
theorem frame_x (w : World) (fr : Nat × Nat) (ht : Tab w) : Calls Tryd.prog 60 #[.slice (some ⟨w.heap.size, 0, none⟩) 3 3] (w.alloc (.cells #[.int .u8 97, .int .u8 98, .int .u8 99] 5 fr)) (NewRow (frameL [97, 98, 99]) w) := by
  have f := (Fr.refl No w).alloc (.cells #[.int .u8 97, .int .u8 98, .int .u8 99] 5 fr)
  exact (frame_c (some ⟨w.heap.size, 0, none⟩) 3 3 [97, 98, 99] _ rfl (by omega) (In.new w #[.int .u8 97, .int .u8 98, .int .u8 99] 5 fr [97, 98, 99] rfl).rd (ht.keep f (fun h => h))).mono fun e w' h => h.from f
theorem one_of {xs : List Tx} {l : List UInt8} (h : xs.map Tx.b = [l]) : ∃ x, xs = [x] ∧ x.b = l := by
  rcases xs with _ | ⟨x, _ | ⟨y, ys⟩⟩
  · cases h
  · exact ⟨x, rfl, by simpa using h⟩
  · cases h
theorem frame_abc : (frameL [97, 98, 99]).length = 8 := by
  rw [frameL_length]
  unfold sizeL
  rw [enc_len_small (by decide)]
  rfl
theorem scan_abc : scanL (frameL [97, 98, 99] ++ [1]) = [[97, 98, 99]] := scanL_eq (by rw [List.length_append, frame_abc]; decide) ⟨[1], by
  show frameL [97, 98, 99] ++ [1] = (frameL [97, 98, 99] ++ []) ++ [1]
  rw [List.append_nil], headF_short (by decide)⟩
theorem size200 : sizeL 200 = 206 := by
  unfold sizeL
  rw [enc_len_big (by decide), enc_len_small (by decide)]
end Go.Proofs.YtihahckjcedceaaDoor
