/-
  Layer 8, the program's own table: New; all its contracts.
-/
import Derived.Test.YtmkadpjacidlkaaArD
import Derived.Test.YtmkadpjacidlkaaArH
import Derived.Test.YtmkadpjacidlkaaArK
import Derived.Laws.MakeOwn
namespace Go.Proofs.Ytmkadpjacidlkaa
set_option linter.unusedVariables false
open Go.RowKit

theorem make_roles (w : World) (n : Nat) (h : n ≤ 64) :
    (Instr.makeSlice 29 (.int .i64 (n : Int)) (.int .i64 (n : Int))).run Try.prog w = .ok (.slice (some ⟨w.heap.size, 0, none⟩) n n) (w.alloc (.cells (igs (List.replicate n 0)).toArray 3)) := by
  obtain ⟨i0, hi, hz0, hz1, hz2⟩ := info_parts infoI64
  have hr := run_make (P := Try.prog) w 29 3 i0 (.int .i64 0) Try.underlying29 hi hz0 .i64 .i64 n n (by omega) (by omega) (by rw [hz2]; omega) (by omega)
  rw [hz1] at hr
  simp only [Int.toNat_natCast] at hr
  rw [show (Value.int .i64 0).cells = #[.int .i64 0] from rfl] at hr
  rw [hr]
  congr 3
  apply Array.ext'
  apply List.ext_getElem?
  intro i
  unfold madeCells igs
  simp only [List.map_replicate, Array.toList_map, Nat.mul_one]
  by_cases hi : i < n
  · simp [hi, Nat.mod_one]
  · simp [hi]
def NewT (z : Int) (w : World) (e : Ending) (w' : World) : Prop := Fr No w w' ∧ ((z < 1 ∨ 64 < z) → e = .returned (.pointer none)) ∧
  (1 ≤ z → z ≤ 64 → ∃ t F, e = .returned (.pointer (some ⟨t, 0, none⟩)) ∧ Ta w' t F (newT z) ∧ ∀ k, F k → w.heap.size ≤ k)
set_option maxRecDepth 20000 in
set_option maxHeartbeats 800000 in
theorem newA_c (z : Int) (w : World) : Calls Try.prog 4 #[.int .i64 z] w (NewT z w) := by
  by_cases h1 : z < 1
  · have d1 : decide (z < 1) = true := decide_eq_true h1
    have H := Lib.hid h1
    clear h1
    go_enter Try.func4, Try.ntmps4
    go_wp2_with fail
    go_ret
    exact ⟨Fr.refl _ _, fun _ => rfl, fun h => absurd H.out (by omega)⟩
  have d1 : decide (z < 1) = false := decide_eq_false h1
  by_cases h2 : 64 < z
  · have d2 : decide (64 < z) = true := decide_eq_true h2
    have H := Lib.hid h2
    clear h1 h2
    go_enter Try.func4, Try.ntmps4
    go_wp2_with fail
    go_ret
    exact ⟨Fr.refl _ _, fun _ => rfl, fun _ h => absurd H.out (by omega)⟩
  have d2 : decide (64 < z) = false := decide_eq_false h2
  obtain ⟨n, rfl⟩ : ∃ n : Nat, z = (n : Int) := ⟨z.toNat, by omega⟩
  have hmk := make_roles w n (by omega)
  obtain ⟨ZL, hZL⟩ : ∃ l, igs (List.replicate n 0) = l := ⟨_, rfl⟩
  rw [hZL] at hmk
  obtain ⟨wa, ha⟩ : ∃ wa, w.alloc (.cells ZL.toArray 3) = wa := ⟨_, rfl⟩
  obtain ⟨wb, hb⟩ : ∃ wb, wa.alloc (.cells #[.slice (some ⟨w.heap.size, 0, none⟩) n n, .slice none 0 0] 54) = wb := ⟨_, rfl⟩
  have sa : wa.heap.size = w.heap.size + 1 := by rw [← ha]; simp
  have sb : wb.heap.size = w.heap.size + 2 := by rw [← hb, World.size_alloc, sa]
  have fa : Fr No w wa := by rw [← ha]; exact (Fr.refl _ _).alloc _
  have fb : Fr No wa wb := by rw [← hb]; exact (Fr.refl _ _).alloc _
  have k0 : At wa w.heap.size 3 ZL.toArray := by rw [← ha]; exact At.new _ _ _
  have k1 : At wb wa.heap.size 54 #[.slice (some ⟨w.heap.size, 0, none⟩) n n, .slice none 0 0] := by rw [← hb]; exact At.new _ _ _
  rw [sa] at k1
  have HR : Hid (NewT (n : Int) w (.returned (.pointer (some ⟨w.heap.size + 1, 0, none⟩))) wb) := Lib.hid ⟨fa.trans fb, fun h => absurd h (by omega), fun _ _ => ⟨w.heap.size + 1, fun k => k = w.heap.size ∨ k = w.heap.size + 1, rfl, ⟨fun k hk => by omega, w.heap.size, none, 0, ⟨by
    show At wb _ _ (tbC w.heap.size (List.replicate n 0).length none 0 0)
    rw [List.length_replicate]
    exact k1, by
    show At wb _ _ (igs (List.replicate n 0)).toArray
    rw [hZL]
    exact k0.keep fb (fun h => h), by omega, RowI.nil _ _⟩, .inr rfl, .inl rfl, fun k hk => by cases hk⟩, fun k hk => by omega⟩⟩
  have HA := Lib.hid ha
  have HB := Lib.hid hb
  clear fa fb k0 k1 hZL ha hb h1 h2
  go_enter Try.func4, Try.ntmps4
  go_wp2_with fail
  go_ret
  rw [HA.out, HB.out]
  exact HR.out
/-- THE PROGRAM'S TABLE IS ONE. -/
theorem allocOK {D : World → Nat → (Nat → Prop) → Dev → Prop} (M : ZoneOK D) : AllocOK D Ta where
  keep := Ta.keep
  low := fun h => h.1
  new := fun z w _ => newA_c z w
  take := fun h hw x _ => by
    cases hO : okRole x with
    | true => exact takeYes_c h hw x hO
    | false => exact takeNo_c h x hO
  own := fun h _ z x _ _ => own_c h z x
  release := fun h hw z _ => release_c h hw z
  reset := fun h hw hD hm hd hj => resetA_c M h hw hD hm hd hj
  rebuild := fun h hw hD hm hl hj => rebuild_c M h hw hD hm hl hj
  role := fun h _ z _ => IsA.tell (role_c h z)
  count := fun h hw x _ => count_c h hw x
  list := fun h hw x _ => list_c h hw x
  queue := fun h hw => queue_c h hw
end Go.Proofs.Ytmkadpjacidlkaa
