/-
  The bound on items that layer 2's statements share.
-/
import Derived.Test.YtpjfdhgkclnagaaWireF
import Derived.Test.YtpjfdhgkclnagaaOpen
namespace Go.Proofs.Ytpjfdhgkclnagaa
set_option linter.unusedVariables false
open Go.RowKit

def smallB (l : List It) : Bool := l.all (fun x => decide (x.b.length ≤ 500)) && decide (l.length ≤ 60)
theorem smallB_no (l : List It) (i : Nat) (x : It) (h : l[i]? = some x) (hx : 500 < x.b.length) : smallB l = false := by
  unfold smallB
  rw [Bool.and_eq_false_iff]
  left
  rw [List.all_eq_false]
  exact ⟨x, List.mem_of_getElem? h, by simp; omega⟩
theorem smallB_all (l : List It) (h : ∀ (j : Nat) (x : It), j < l.length → l[j]? = some x → x.b.length ≤ 500) : smallB l = decide (l.length ≤ 60) := by
  unfold smallB
  have : l.all (fun x => decide (x.b.length ≤ 500)) = true := by
    rw [List.all_eq_true]
    intro x hx
    obtain ⟨i, hi, rfl⟩ := List.mem_iff_getElem.1 hx
    simpa using h i l[i] hi (List.getElem?_eq_getElem hi)
  rw [this, Bool.true_and]
theorem smallB_yes (l : List It) (h : smallB l = true) : l.length ≤ 60 ∧ ∀ (j : Nat) (x : It), l[j]? = some x → x.b.length ≤ 500 := by
  unfold smallB at h
  rw [Bool.and_eq_true, List.all_eq_true] at h
  refine ⟨by simpa using h.2, fun j x hx => by simpa using h.1 x (List.mem_of_getElem? hx)⟩

set_option maxRecDepth 20000 in
set_option maxHeartbeats 800000 in
theorem small_c (a : Option Addr) (cap : Nat) (l : List It) (w : World) (hm : l.length ≤ maxLen) (hi : Items w a l) :
    Calls Try.prog 9 #[.slice a l.length cap] w fun e w' => e = .returned (.bool (smallB l)) ∧ Fr No w w' := by
  unfold maxLen at hm
  obtain ⟨len, hlen⟩ : ∃ len, l.length = len := ⟨_, rfl⟩
  rw [hlen] at hm ⊢
  have HL := Lib.hid hlen
  have HI := Lib.hid hi
  clear hi hlen
  go_enter Try.func9, Try.ntmps9
  go_wp2_with fail
  go_loopw [7] (fun i wr => ∃ k : Nat, i = .int .i64 k ∧ k ≤ len ∧ Fr No w wr ∧ ∀ (j : Nat) (x : It), j < k → l[j]? = some x → x.b.length ≤ 500) (fun i _ => len - (intOf i).toNat)
  case atStart => exact ⟨0, rfl, Nat.zero_le _, Fr.refl _ _, fun j x h => absurd h (by omega)⟩
  case round =>
    obtain ⟨k, rfl, hk, hfr, hall⟩ := hrel
    have HA := Lib.hid hall
    have HF := Lib.hid hfr
    clear hall hfr
    by_cases hlt : k < len
    · have hkl : k < l.length := by rw [HL.out]; exact hlt
      obtain ⟨b, o, rfl, hx⟩ := HI.out (by omega)
      have hx := (hx k l[k] (List.getElem?_eq_getElem hkl)).keep HF.out
      have HX : Hid (l[k]? = some l[k]) := Lib.hid (List.getElem?_eq_getElem hkl)
      generalize l[k] = x at hx HX
      obtain ⟨c0, c1, c2, _, _, h1, h2, _⟩ := hx
      unfold maxLen at h2
      by_cases h5 : 500 < x.b.length
      · have HN := Lib.hid (smallB_no l k x HX.out h5)
        generalize x.b.length = m at *
        go_wp2_with fail
        go_ret
        exact ⟨by rw [HN.out]; rfl, HF.out.alloc _⟩
      · have HA2 : Hid (∀ (j : Nat) (x : It), j < k + 1 → l[j]? = some x → x.b.length ≤ 500) := Lib.hid (fun j y hj hy => by
          rcases Nat.lt_or_ge j k with h | h
          · exact HA.out j y h hy
          · have : j = k := by omega
            subst this
            rw [HX.out] at hy
            cases hy
            omega)
        generalize x.b.length = m at *
        go_wp2_with fail
        go_roundw
        case rel => exact ⟨k + 1, by go_num, by omega, HF.out.alloc _, HA2.out⟩
        case measure => simp [intOf]; omega
    · have hk' : k = len := by omega
      have HN := Lib.hid (smallB_all l fun j x hj hx => HA.out j x (by rw [hk', ← HL.out]; exact hj) hx)
      rw [HL.out] at HN
      have Hk := Lib.hid hk'
      clear hk'
      go_wp2_with fail
      go_ret
      refine ⟨?_, HF.out⟩
      rw [HN.out]
      exact congrArg (fun b => Ending.returned (.bool b)) (decide_eq_decide.2 (by omega))
end Go.Proofs.Ytpjfdhgkclnagaa
