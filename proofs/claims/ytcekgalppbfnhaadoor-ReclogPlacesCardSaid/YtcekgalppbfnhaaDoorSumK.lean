/-
  Contracts of package sum's Mask and of the document's; the table behind what is new.
-/
import Derived.Test.YtcekgalppbfnhaaDoorSum
namespace Go.Proofs.YtcekgalppbfnhaaDoor
set_option linter.unusedVariables false
open Go.RowKit

theorem Tab.below {w w' : World} {B : Nat} (h : Tab w) (hb : Below B w w') (hB : w.heap.size ≤ B) : Tab w' := fun i hi => by
  have h1 := h i hi
  exact (hb.cell (Nat.lt_of_lt_of_le (cell_block h1) hB)).trans h1

def mk (c : Int) : Int := (c / 32768 + c % 32768 * 131072 + 2726488792) % 4294967296
theorem or_add (a b : Nat) (k : Nat) (ha : a < 2 ^ k) : a ||| b * 2 ^ k = a + b * 2 ^ k := by
  have h := Nat.shiftLeft_add_eq_or_of_lt ha b
  rw [Nat.shiftLeft_eq] at h
  rw [Nat.or_comm, Nat.add_comm]
  exact h.symm
theorem or_mask (c : Int) (h0 : 0 ≤ c) (h1 : c ≤ 4294967295) : bits .or .u32 (c / 32768) (c * 131072 % 4294967296) = c / 32768 + c % 32768 * 131072 := by
  obtain ⟨n, rfl⟩ := Int.eq_ofNat_of_zero_le h0
  rw [u32_or _ _ (by omega) (by omega) (by omega) (by omega)]
  have e1 : ((n : Int) / 32768).toNat = n / 32768 := by omega
  have e2 : ((n : Int) * 131072 % 4294967296).toNat = n % 32768 * 2 ^ 17 := by omega
  have e3 : n / 32768 < 2 ^ 17 := by omega
  rw [e1, e2, or_add _ _ 17 e3]
  omega
set_option maxHeartbeats 400000 in
theorem mask_c (c : Int) (w : World) (h0 : 0 ≤ c) (h1 : c ≤ 4294967295) :
    Calls Tryd.prog 57 #[.int .u32 c] w fun e w' => e = .returned (.int .u32 (mk c)) ∧ w = w' := by
  have e := or_mask c h0 h1
  go_enter Tryd.func57, Tryd.ntmps57
  go_wp2_with fail
  go_ret
  exact ⟨rfl, rfl⟩
set_option maxHeartbeats 400000 in
theorem refmask_c (c : Int) (w : World) (_h0 : 0 ≤ c) (_h1 : c ≤ 4294967295) :
    Calls Tryd.prog 37 #[.int .u32 c] w fun e w' => e = .returned (.int .u32 (mk c)) ∧ w = w' := by
  go_enter Tryd.func37, Tryd.ntmps37
  go_wp2_with fail
  go_ret
  exact ⟨rfl, rfl⟩
end Go.Proofs.YtcekgalppbfnhaaDoor
