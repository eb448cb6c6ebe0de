/-
  The contract of the document's New (layer 4).
-/
import Derived.Test.YtbglicndccdaiaaDoorBlB
import Derived.Laws.MakeOwn
namespace Go.Proofs.YtbglicndccdaiaaDoor
set_option linter.unusedVariables false
open Go.RowKit

def sizeF (k e : Nat) : Nat := (max (k * e) 64 + 7) / 8 * 8
def probF (e : Nat) : Nat := max (e * 7 / 10) 1
theorem infoBool : (Tryd.prog.info? 4).map (fun i => (i.zero, i.size, i.bytes)) = some (some (.bool false), 1, 1) := by kernel_rfl
theorem make_bools (w : World) (n : Nat) (h : n ≤ 140737488355328) :
    (Instr.makeSlice 37 (.int .i64 (n : Int)) (.int .i64 (n : Int))).run Tryd.prog w = .ok (.slice (some ⟨w.heap.size, 0, none⟩) n n) (w.alloc (.cells (madeCells #[.bool false] n) 4)) := by
  obtain ⟨i0, hi, hz0, hz1, hz2⟩ := info_parts infoBool
  have hr := run_make (P := Tryd.prog) w 37 4 i0 (.bool false) Tryd.underlying37 hi hz0 .i64 .i64 n n (by omega) (by omega) (by rw [hz2]; omega) (by omega)
  rw [hz1] at hr
  simp only [Int.toNat_natCast, Nat.mul_one] at hr
  exact hr
theorem madeBools (n : Nat) : madeCells #[.bool false] n = boolsV (List.replicate n false) := by
  apply Array.ext
  · simp [size_madeCells, boolsV]
  · intro i h1 h2
    have h3 : i < n := by simpa [size_madeCells] using h1
    simp [madeCells, boolsV, Nat.mod_one]
set_option maxRecDepth 20000 in
set_option maxHeartbeats 1000000 in
theorem refNew_c (k e : Nat) (hk : k ≤ 65536) (he1 : 1 ≤ e) (he : e ≤ 32) (w : World) :
    Calls Tryd.prog 12 #[.int .i64 (k : Int), .int .i64 (e : Int)] w fun x w' =>
      ∃ b g, x = .returned (.pointer (some ⟨b, 0, none⟩)) ∧ RFil w' b g (List.replicate (sizeF k e) false) (probF e) ∧ Fr No w w' ∧ w.heap.size ≤ b ∧ w.heap.size ≤ g := by
  obtain ⟨t, ht⟩ : ∃ t, k * e = t := ⟨_, rfl⟩
  have e1 : (k : Int) * (e : Int) = (t : Int) := by rw [← ht]; exact (Int.natCast_mul k e).symm
  have ht2 : t ≤ 65536 * 32 := by rw [← ht]; exact Nat.mul_le_mul hk he
  obtain ⟨T, hT⟩ : ∃ T, sizeF k e = T := ⟨_, rfl⟩
  have hT2 : T = (max t 64 + 7) / 8 * 8 := by rw [← hT, ← ht]; rfl
  obtain ⟨s0, hs0⟩ : ∃ s0, max t 64 = s0 := ⟨_, rfl⟩
  rw [hs0] at hT2
  rw [hT]
  have hs : s0 ≤ 65536 * 32 := by omega
  have HP := Lib.hid (show probF e = max (e * 7 / 10) 1 from rfl)
  generalize probF e = P at *
  have hway : (t < 64 ∧ s0 = 64) ∨ (¬ t < 64 ∧ s0 = t) := by omega
  have hpw : ((e : Int) * 7 / 10 < 1 ∧ P = 1) ∨ (¬ (e : Int) * 7 / 10 < 1 ∧ ((e : Int) * 7 / 10) = (P : Int)) := by
    have := HP.out
    omega
  clear ht hT hs0 hk
  have hmk := fun w => make_bools w T (by omega)
  rw [madeBools] at hmk
  have loop : True := trivial
  rcases hway with ⟨h1, rfl⟩ | ⟨h1, rfl⟩
  all_goals
    go_enter Tryd.func12, Tryd.ntmps12
    go_wp2_with fail
    clear h1 e1
    go_loopw [5] (fun n wr => ∃ s : Nat, n = .int .i64 s ∧ s ≤ T ∧ T < s + 8 ∧ wr = w) (fun n _ => T - (intOf n).toNat)
    case atStart => first | exact ⟨64, rfl, by omega, by omega, rfl⟩ | exact ⟨s0, rfl, by omega, by omega, rfl⟩
    case round =>
      obtain ⟨s, rfl, hs1, hs2, rfl⟩ := hrel
      by_cases h8 : s % 8 = 0
      · have hsT : s = T := by omega
        subst hsT
        have hb8 : (((s : Int) % 8) != 0) = false := by simp; omega
        have HM := hmk
        have B1 : At _ _ _ _ := At.new wr 4 (boolsV (List.replicate s false))
        have hf1 := (Fr.refl No wr).alloc (.cells (boolsV (List.replicate s false)) 4)
        have hs1' : (wr.alloc (.cells (boolsV (List.replicate s false)) 4)).heap.size = wr.heap.size + 1 := by simp
        have fin : ∀ (x : Int), x = (P : Int) → ∃ b g, Ending.returned (.pointer (some ⟨wr.heap.size + 1, 0, none⟩)) = .returned (.pointer (some ⟨b, 0, none⟩)) ∧
            RFil ((wr.alloc (.cells (boolsV (List.replicate s false)) 4)).alloc (.cells #[.slice (some ⟨wr.heap.size, 0, none⟩) s s, .int .i64 x] 39)) b g (List.replicate s false) P ∧
            Fr No wr ((wr.alloc (.cells (boolsV (List.replicate s false)) 4)).alloc (.cells #[.slice (some ⟨wr.heap.size, 0, none⟩) s s, .int .i64 x] 39)) ∧ wr.heap.size ≤ b ∧ wr.heap.size ≤ g := fun x hx => by
          subst hx
          refine ⟨wr.heap.size + 1, wr.heap.size, rfl, ⟨?_, B1.keep ((Fr.refl No _).alloc _) (fun h => h), by omega⟩, hf1.alloc _, by omega, Nat.le_refl _⟩
          have := At.new (wr.alloc (.cells (boolsV (List.replicate s false)) 4)) 39 #[.slice (some ⟨wr.heap.size, 0, none⟩) s s, .int .i64 (P : Int)]
          rw [hs1'] at this
          simpa using this
        have FIN := Lib.hid fin
        clear B1 hf1 hs1' fin hT2 ht2 hs
        rcases hpw with ⟨p1, rfl⟩ | ⟨p1, p2⟩
        · go_wp2_with fail
          go_ret
          exact FIN.out 1 rfl
        · go_wp2_with fail
          go_ret
          exact FIN.out _ rfl
      · have hb8 : (((s : Int) % 8) != 0) = true := by simp; omega
        go_wp2_with fail
        go_roundw
        case rel => exact ⟨s + 1, by simp, by omega, by omega, by simp⟩
        case measure => simp [intOf]; omega
end Go.Proofs.YtbglicndccdaiaaDoor
