/-
  Layer 10: the law's same, of two lists of the same ops.
-/
import Derived.Test.YtidfjcaajejfoaaBaC
namespace Go.Proofs.Ytidfjcaajejfoaa
set_option linter.unusedVariables false
open Go.RowKit

set_option maxRecDepth 20000 in
set_option maxHeartbeats 3200000 in
theorem same10_yes (q : Int) (a a' : Option Addr) (cap cap' n : Nat) (l : List Op10) (w : World) (S S' : Nat → Prop) (hl : l.length = n) (hm : n ≤ 1000000) (hi : Ops w S a l) (hi' : Ops w S' a' l) :
    Calls Try.prog 23 #[.agg #[.int .i64 q, .slice a n cap], .agg #[.int .i64 q, .slice a' n cap']] w (Ask (.bool true) w) := by
  obtain ⟨W, hW⟩ : ∃ W, (w.alloc (.cells #[.int .i64 q, .slice a n cap] 24)).alloc (.cells #[.int .i64 q, .slice a' n cap'] 24) = W := ⟨_, rfl⟩
  have hsz : (w.alloc (.cells #[.int .i64 q, .slice a n cap] 24)).heap.size = w.heap.size + 1 := by simp [World.alloc, -World.alloc_eq]
  have hF : Fr No w W := by rw [← hW]; exact ((Fr.refl _ _).alloc _).alloc _
  have hb2 : W.heap[w.heap.size + 1]? = some (.cells #[.int .i64 q, .slice a' n cap'] 24) := by rw [← hW, ← hsz]; exact heap_alloc_new _ _
  have hb1 : W.heap[w.heap.size]? = some (.cells #[.int .i64 q, .slice a n cap] 24) := by
    rw [← hW]
    have h0 := heap_alloc_new w (.cells #[.int .i64 q, .slice a n cap] 24)
    exact (((Fr.refl No (w.alloc (.cells #[.int .i64 q, .slice a n cap] 24))).alloc _).block w.heap.size (by rw [hsz]; omega) (fun h => h)).trans h0
  have k0 : W.cell? ⟨w.heap.size, 0, none⟩ = some (.int .i64 q) := by rw [cell_of_row W w.heap.size 0 _ _ (0, 0) hb1]; rfl
  have k1 : W.cell? ⟨w.heap.size, 1, none⟩ = some (.slice a n cap) := by rw [cell_of_row W w.heap.size 1 _ _ (0, 0) hb1]; rfl
  have k2 : W.cell? ⟨w.heap.size + 1, 0, none⟩ = some (.int .i64 q) := by rw [cell_of_row W (w.heap.size + 1) 0 _ _ (0, 0) hb2]; rfl
  have k3 : W.cell? ⟨w.heap.size + 1, 1, none⟩ = some (.slice a' n cap') := by rw [cell_of_row W (w.heap.size + 1) 1 _ _ (0, 0) hb2]; rfl
  have HW := Lib.hid hW
  have HF := Lib.hid hF
  have HL := Lib.hid hl
  have HI := Lib.hid hi
  have HI' := Lib.hid hi'
  clear hi hi' hl hW hF hb1 hb2 hsz
  go_enter Try.func23, Try.ntmps23
  go_wp2_with fail
  rw [HW.out]
  go_wp2_with fail
  go_loopw [23] (fun i wr => ∃ k : Nat, i = .int .i64 k ∧ k ≤ n ∧ Fr No W wr) (fun i _ => n - (intOf i).toNat)
  case atStart => exact ⟨0, rfl, Nat.zero_le _, Fr.refl _ _⟩
  case round =>
    obtain ⟨k, rfl, hk, hfr⟩ := hrel
    have m1 := hfr.cell k1 (fun h => h)
    have m3 := hfr.cell k3 (fun h => h)
    have HR := Lib.hid hfr
    clear hfr k0 k1 k2 k3
    by_cases hlt : k < n
    · have hkl : k < l.length := by rw [HL.out]; exact hlt
      obtain ⟨b, o, _, rfl, hx⟩ := HI.out (by omega)
      obtain ⟨b', o', _, rfl, hx'⟩ := HI'.out (by omega)
      have hx := ((hx k hkl).keep HF.out (fun h => h)).keep HR.out (fun h => h)
      have hx' := ((hx' k hkl).keep HF.out (fun h => h)).keep HR.out (fun h => h)
      generalize l.getD k op0 = x at hx hx'
      obtain ⟨c0, c1, c2⟩ := hx
      obtain ⟨c0', c1', c2'⟩ := hx'
      have d0 : (x.k == x.k) = true := beq_self_eq_true _
      have d1 : (x.key.toList == x.key.toList) = true := beq_self_eq_true _
      have d2 : (x.val.toList == x.val.toList) = true := beq_self_eq_true _
      go_wp2_with fail
      go_region
      go_wp2_with fail
      go_roundw
      case rel => exact ⟨k + 1, by simp, by omega, HR.out.drew⟩
      case measure => simp [intOf]; omega
    · go_wp2_with fail
      go_ret
      exact ⟨rfl, HF.out.trans HR.out⟩
end Go.Proofs.Ytidfjcaajejfoaa
