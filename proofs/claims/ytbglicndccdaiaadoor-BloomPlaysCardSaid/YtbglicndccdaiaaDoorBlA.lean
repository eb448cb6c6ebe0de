/-
  Contracts of the document's answer for layer 4: Places.
-/
import Derived.Test.YtbglicndccdaiaaDoorSumK
import Derived.Test.YtbglicndccdaiaaDoorBlN
import Derived.Test.YtbglicndccdaiaaDoorMemI
import Derived.Test.YtbglicndccdaiaaDoorSame
namespace Go.Proofs.YtbglicndccdaiaaDoor
set_option linter.unusedVariables false
open Go.RowKit

theorem mk_nat (n : Nat) : mk (n : Int) = (mkN n : Int) := by
  unfold mk mkN
  omega
/-- A row of integers of the call's own comes back, and nothing that was there has turned. -/
def NewRowI (l : List Int) (w : World) (e : Ending) (w' : World) : Prop := ∃ v, e = .returned v ∧ RowI w' (Gr No w w') v l ∧ Fr No w w'
def placesI (l : List UInt8) (m n : Nat) : List Int := (places l m n).map fun (x : Nat) => (x : Int)
theorem placesI_succ (l : List UInt8) (m n : Nat) : placesI l m (n + 1) = placesI l m n ++ [(((pA l + n * pD l) % m : Nat) : Int)] := by
  unfold placesI
  rw [places_succ, List.map_append]
  rfl
theorem placesI_length (l : List UInt8) (m n : Nat) : (placesI l m n).length = n := by simp [placesI, places_length]
theorem grI_lt {w wr : World} : ∀ k, Gr No w wr k → k < wr.heap.size := fun k hk => by
  rcases hk with hk | hk
  · exact hk.elim
  · exact hk.2
set_option maxRecDepth 20000 in
set_option maxHeartbeats 1000000 in
theorem refPlaces_c (a : Option Addr) (len cap : Nat) (l : List UInt8) (m n : Nat) (w : World) (hl : l.length = len) (hlm : len ≤ 1000000) (hr : Rd w a l) (hm : 0 < m) (hm2 : m ≤ 1000000000) (hn : n ≤ 64) :
    Calls Tryd.prog 25 #[.slice a len cap, .int .i64 (m : Int), .int .i64 (n : Int)] w (NewRowI (placesI l m n) w) := by
  have C1 := Lib.hid (refof_c a len cap l w hl (by omega) hr)
  have hA := pA_lt l
  have C2 := fun w => refmask_c ((pA l : Nat) : Int) w (by omega) (by omega)
  rw [mk_nat] at C2
  have hD := pD_lt l
  have hM : mkN (pA l) < 4294967296 := by unfold mkN; omega
  have hpd : (mkN (pA l) % 2 = 0 ∧ pD l = mkN (pA l) + 1) ∨ (¬ mkN (pA l) % 2 = 0 ∧ pD l = mkN (pA l)) := by
    unfold pD
    by_cases h : mkN (pA l) % 2 = 0
    · exact .inl ⟨h, if_pos h⟩
    · exact .inr ⟨h, if_neg h⟩
  have HS := Lib.hid (placesI_succ l m)
  have HL := Lib.hid (placesI_length l m)
  have HP := Lib.hid (show ∀ i, i ≤ 64 → i * pD l ≤ 64 * 4294967297 from fun i hi => Nat.mul_le_mul hi (Nat.le_of_lt hD))
  have C1 : Hid (Calls _ _ _ _ fun e w' => e = .returned (.int .u32 ((pA l : Nat) : Int)) ∧ w = w') := C1
  generalize pA l = A at *
  generalize pD l = D at *
  generalize mkN A = M at *
  have C2 := Lib.hid C2
  clear hl hr
  have hpd' : (((M : Int) % 2 == 0) = true ∧ (M : Int) + 1 = (D : Int)) ∨ (((M : Int) % 2 == 0) = false ∧ D = M) := by
    rcases hpd with ⟨h, e⟩ | ⟨h, e⟩
    · exact .inl ⟨by rw [beq_iff_eq]; omega, by omega⟩
    · exact .inr ⟨by rw [beq_eq_false_iff_ne]; omega, e⟩
  clear hpd
  rcases hpd' with ⟨h2, eD⟩ | ⟨h2, rfl⟩
  all_goals
    go_enter Tryd.func25, Tryd.ntmps25
    go_wp2_with fail
    refine (show Calls _ _ _ _ _ from C1.out).mono ?_
    rintro e w1 ⟨rfl, rfl⟩
    go_wp2_with fail
    refine (C2.out _).mono ?_
    rintro e w1 ⟨rfl, rfl⟩
    go_wp2_with fail
    try rw [eD]
    try clear eD
    clear h2 hM
    go_loopw [10, 11] (fun v i wr => ∃ k : Nat, i = .int .i64 k ∧ k ≤ n ∧ RowI wr (Gr No w wr) v (placesI l m k) ∧ Fr No w wr) (fun _ i _ => n - (intOf i).toNat)
    case atStart => exact ⟨0, rfl, Nat.zero_le _, RowI.nil _ _, Fr.refl _ _⟩
    case round =>
      obtain ⟨k, rfl, hk, hrow, hfr⟩ := hrel
      by_cases h1 : k < n
      · obtain ⟨v1, w1, hrun, hrow1, hfr1⟩ := hrow.push grI_lt ((((A + k * D) % m : Nat)) : Int) (by rw [HL.out]; omega)
        have hrow1 := hrow1.join hfr.size hfr1.size
        rw [← HS.out] at hrow1
        have hp := HP.out k (by omega)
        have e1 : (k : Int) * (D : Int) = ((k * D : Nat) : Int) := (Int.natCast_mul k D).symm
        generalize k * D = p at hp e1 hrun
        rw [show (((A + p) % m : Nat) : Int) = ((A : Int) + (p : Int)) % (m : Int) by simp] at hrun
        have hlt : ((A : Int) + (p : Int)) % (m : Int) < m := Int.emod_lt_of_pos _ (by omega)
        have hge : 0 ≤ ((A : Int) + (p : Int)) % (m : Int) := Int.emod_nonneg _ (by omega)
        have HR := Lib.hid hrun
        have HW := Lib.hid hrow1
        have HF := Lib.hid (hfr.then_ hfr1 fun k hk h => Gr.old hk h)
        clear hrun hrow hrow1 hfr hfr1
        go_wp2_with (at_builtin; refine wpList_append_run rfl _ _ 44 rfl rfl rfl HR.out ?_)
        go_roundw
        case rel => exact ⟨k + 1, by simp, by omega, HW.out, HF.out⟩
        case measure => simp [intOf]; omega
      · have hkn : k = n := by omega
        subst hkn
        have HW := Lib.hid hrow
        have HF := Lib.hid hfr
        clear hrow hfr
        go_wp2_with fail
        go_ret
        exact ⟨_, rfl, HW.out, HF.out⟩
end Go.Proofs.YtbglicndccdaiaaDoor
