/-
  The walk of the statement VlogReads.
-/
import Derived.Test.YtihahckjcedceaaDoorMxVgS
import Derived.Test.YtihahckjcedceaaDoorMxVgQ
namespace Go.Proofs.YtihahckjcedceaaDoor
set_option linter.unusedVariables false
set_option linter.unusedSimpArgs false
open Go.RowKit

theorem wf_appDv {m : Dev} (hw : WF m) (zs : List Int) (l : List UInt8) : WF (appDv m zs l) := by
  unfold appDv
  split
  · exact hw
  · exact wf_app hw _ _
theorem done_app (m : Dev) (z : Int) (l : List UInt8) : (appM m z l).done ≤ m.done + 1 := by
  unfold appM
  split
  · unfold powM setZ
    split <;> simp
  · exact Nat.le_succ _
theorem done_appDv (m : Dev) (zs : List Int) (l : List UInt8) : (appDv m zs l).done ≤ m.done + 1 := by
  unfold appDv
  split
  · exact Nat.le_succ _
  · exact done_app _ _ _
theorem szOf_right {n s : Int} (h : SzOf n s) {z t : Int} (hr : RtV z t n) : s = (sizeL n.toNat : Int) := h.mid (by have := hr.2.2.2.2.1; omega) (by have := hr.2.2.2.2.2; omega)
/-- What Get tells beside ReadAt. -/
theorem get_beside {m : Dev} {z t n s : Int} (hs : SzOf n s) (x : Ky) {rl : List UInt8} {re : Int} (hR : raR m z t s = (rl, re)) :
    (¬ RtV z t n → vgetR m z t n x = (⟨#[]⟩, 140)) ∧ (RtV z t n → re ≠ 0 → vgetR m z t n x = (⟨#[]⟩, re)) ∧ (RtV z t n → re = 0 → vgetR m z t n x = getRec (rrR rl) x) := by
  refine ⟨fun h => if_neg h, fun h hr => ?_, fun h hr => ?_⟩
  · have e := szOf_right hs h
    rw [e] at hR
    unfold vgetR
    rw [if_pos h, hR]
    exact if_neg hr
  · have e := szOf_right hs h
    rw [e] at hR
    unfold vgetR
    rw [if_pos h, hR]
    exact if_pos hr
/-- Of a record: got just if it is one of a value with that key. -/
theorem getRec_two (rl : List UInt8) (x : Ky) : (∃ v, getRec (rrR rl) x = (v, 0) ∧ x.rt ∧ recB x v = rl) ∨ (getRec (rrR rl) x = (⟨#[]⟩, 140) ∧ ∀ v : ByteArray, v.size < 9223372036854775808 → x.rt → recB x v ≠ rl) := by
  cases h : rrR rl with
  | none => exact .inr ⟨rfl, fun v hv hx he => by rw [← he, rrR_enc hx v hv] at h; cases h⟩
  | some p =>
    obtain ⟨y, v⟩ := p
    obtain ⟨h1, h2⟩ := rrR_some h
    by_cases hy : y = x
    · subst hy
      exact .inl ⟨v, if_pos rfl, h1, h2⟩
    · refine .inr ⟨if_neg hy, fun u hu hx he => ?_⟩
      rw [← he, rrR_enc hx u hu] at h
      simp only [Option.some.injEq, Prod.mk.injEq] at h
      exact hy h.1.symm
end Go.Proofs.YtihahckjcedceaaDoor
