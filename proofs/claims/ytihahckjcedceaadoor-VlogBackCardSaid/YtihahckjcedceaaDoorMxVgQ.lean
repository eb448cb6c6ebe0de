/-
  Layer 14: the laws' small; an item's key.
-/
import Derived.Test.YtihahckjcedceaaDoorMg43
namespace Go.Proofs.YtihahckjcedceaaDoor
set_option linter.unusedVariables false
set_option linter.unusedSimpArgs false
open Go.RowKit

def eKy (x : Ent) : Ky := ⟨x.u, x.q, x.k⟩
def Small14 (l : List Ent) : Prop := (∀ x ∈ l, x.u.size ≤ 200 ∧ x.val.size ≤ 500) ∧ l.length ≤ 40
instance (l : List Ent) : Decidable (Small14 l) := by unfold Small14; infer_instance
set_option maxRecDepth 20000 in
set_option maxHeartbeats 1600000 in
theorem small14_c (a : Option Addr) (n cap : Nat) (l : List Ent) (S : Nat → Prop) (w : World) (hn : l.length = n) (hm : n ≤ maxLen) (hi : Ents w S a l) :
    Calls Tryd.prog 16 #[.slice a n cap] w (PlainRet (.bool (decide (Small14 l))) w) := by
  unfold maxLen at hm
  have HNO : Hid (∀ k, k < n → (200 < (l.getD k ent0).u.size ∨ 500 < (l.getD k ent0).val.size) → decide (Small14 l) = false) := Lib.hid fun k hk h => by
    rw [decide_eq_false_iff_not]
    intro h'
    have := h'.1 _ (getD_memE l k (by omega))
    omega
  have HYES : Hid ((∀ j, j < n → (l.getD j ent0).u.size ≤ 200 ∧ (l.getD j ent0).val.size ≤ 500) → decide (Small14 l) = decide ((n : Int) ≤ 40)) := Lib.hid fun h => by
    refine decide_eq_decide.2 ⟨fun h' => by have := h'.2; omega, fun h' => ⟨fun x hx => ?_, by omega⟩⟩
    obtain ⟨i, hi, rfl⟩ := List.getElem_of_mem hx
    have := h i (by omega)
    rw [getD_ent l i hi] at this
    exact this
  have HI := Lib.hid hi
  have HL := Lib.hid hn
  clear hi hn
  generalize decide (Small14 l) = R at *
  go_enter Tryd.func16, Tryd.ntmps16
  go_wp2_with fail
  go_loopw [7] (fun i wr => ∃ k : Nat, i = .int .i64 k ∧ k ≤ n ∧ Fr No w wr ∧ ∀ j, j < k → (l.getD j ent0).u.size ≤ 200 ∧ (l.getD j ent0).val.size ≤ 500) (fun i _ => n - (intOf i).toNat)
  case atStart => exact ⟨0, rfl, Nat.zero_le _, Fr.refl _ _, fun j h => absurd h (by omega)⟩
  case round =>
    obtain ⟨k, rfl, hk, hfr, hall⟩ := hrel
    have HA := Lib.hid hall
    have HR := Lib.hid hfr
    clear hall hfr
    by_cases hlt : k < n
    · have hkl : k < l.length := by rw [HL.out]; exact hlt
      obtain ⟨b, o, _, rfl, hx⟩ := HI.out (by omega)
      have hx := (hx k hkl).keep HR.out (fun h => h)
      have HK := Lib.hid (HNO.out k hlt)
      obtain ⟨x, hy⟩ : ∃ x, l.getD k ent0 = x := ⟨_, rfl⟩
      rewrite [hy] at hx HK
      have HY := Lib.hid hy
      clear hy
      obtain ⟨c0, c1, c2, c3⟩ := hx
      by_cases h5 : 200 < (x.u.size : Int)
      · have HN := Lib.hid (HK.out (.inl (by omega)))
        go_wp2_with fail
        go_ret
        exact ⟨by rw [HN.out]; rfl, HR.out.alloc _⟩
      · by_cases h6 : 500 < (x.val.size : Int)
        · have HN := Lib.hid (HK.out (.inr (by omega)))
          go_wp2_with fail
          go_ret
          exact ⟨by rw [HN.out]; rfl, HR.out.alloc _⟩
        · have HA2 : Hid (∀ j, j < k + 1 → (l.getD j ent0).u.size ≤ 200 ∧ (l.getD j ent0).val.size ≤ 500) := Lib.hid (fun j hj => by
            rcases Nat.lt_or_ge j k with h | h
            · exact HA.out j h
            · have : j = k := by omega
              subst this
              rw [HY.out]
              omega)
          go_wp2_with fail
          go_roundw
          case rel => exact ⟨k + 1, by simp, by omega, HR.out.alloc _, HA2.out⟩
          case measure => simp [intOf]; omega
    · have hk' : k = n := by omega
      have HN := Lib.hid (HYES.out fun j hj => HA.out j (by omega))
      have Hk := Lib.hid hk'
      clear hk'
      go_wp2_with fail
      go_ret
      refine ⟨?_, HR.out⟩
      rw [HN.out]
      rfl
/-- A key's comparison. -/
theorem keyEql (x y : Ky) (w : World) : (binOp .eql 43 (.agg #[.string x.u, .int .i64 x.q, .int .i64 x.k]) (.agg #[.string y.u, .int .i64 y.q, .int .i64 y.k])).run Tryd.prog w = .ok (.bool (decide (x = y))) w := by
  have he : decide (x = y) = (decide (x.u = y.u) && (decide (x.q = y.q) && decide (x.k = y.k))) := by
    rw [Bool.eq_iff_iff]
    simp only [decide_eq_true_eq, Bool.and_eq_true]
    cases x; cases y; simp
  rw [he]
  by_cases e1 : x.u = y.u
  · rw [e1]
    by_cases e2 : x.q = y.q <;> by_cases e3 : x.k = y.k <;> go_simp <;> simp [e2, e3]
  · have e1' : ¬ x.u.toList = y.u.toList := fun h => e1 (by
      rw [ByteArray.toList_eq, ByteArray.toList_eq] at h
      exact ByteArray.ext (Array.toList_inj.1 h))
    go_simp
end Go.Proofs.YtihahckjcedceaaDoor
