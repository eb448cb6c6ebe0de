/-
  The contract of the document's Bytes of a filter (layer 4).
-/
import Derived.Test.YtbglicndccdaiaaDoorBlC
namespace Go.Proofs.YtbglicndccdaiaaDoor
set_option linter.unusedVariables false
open Go.RowKit

def bitN (on : List Bool) (i : Nat) : Nat := if on.getD i false then 1 else 0
/-- Bits i + 7 down to i + 8 - m, the highest first, as a number. -/
def vb (on : List Bool) (i : Nat) : Nat → Nat
  | 0 => 0
  | m + 1 => vb on i m * 2 + bitN on (i + 7 - m)
theorem bitN_le (on : List Bool) (i : Nat) : bitN on i ≤ 1 := by unfold bitN; split <;> omega
theorem vb_lt (on : List Bool) (i : Nat) : ∀ m, vb on i m < 2 ^ m := by
  intro m
  induction m with
  | zero => simp [vb]
  | succ m ih =>
    have := bitN_le on (i + 7 - m)
    rw [Nat.pow_succ]
    show vb on i m * 2 + bitN on (i + 7 - m) < _
    omega
def filB (on : List Bool) (p r : Nat) : List UInt8 := UInt8.ofNat p :: (List.range r).map fun j => UInt8.ofNat (vb on (8 * j) 8)
theorem filB_succ (on : List Bool) (p r : Nat) : filB on p (r + 1) = filB on p r ++ [UInt8.ofNat (vb on (8 * r) 8)] := by simp [filB, List.range_succ]
theorem filB_length (on : List Bool) (p r : Nat) : (filB on p r).length = r + 1 := by simp [filB]
theorem row_built (w : World) (c : UInt8) : Row (w.alloc (.cells #[byt c] 5)) (Gr No w (w.alloc (.cells #[byt c] 5))) (.slice (some ⟨w.heap.size, 0, none⟩) 1 1) [c] :=
  ⟨⟨rfl, .inr ⟨w.heap.size, 1, #[byt c], rfl, Nat.zero_le _, heap_alloc_new w _, Nat.le_refl _, by simp [maxLen], rfl, rfl⟩⟩, fun k hk => by
    have : w.heap.size = k := Option.some.inj hk
    subst this
    exact .inr ⟨Nat.le_refl _, by simp⟩⟩
theorem grb_lt {w wr : World} : ∀ k, Gr No w wr k → k < wr.heap.size := fun k hk => by
  rcases hk with hk | hk
  · exact hk.elim
  · exact hk.2
set_option maxRecDepth 20000 in
set_option maxHeartbeats 2000000 in
theorem refFBytes_c (b g : Nat) (on : List Bool) (p R : Nat) (w : World) (hf : RFil w b g on p) (hp : p ≤ 64) (hR : on.length = 8 * R) (hR2 : R ≤ 1000000) :
    Calls Tryd.prog 23 #[.pointer (some ⟨b, 0, none⟩)] w fun e w' => ∃ v, e = .returned v ∧ Row w' (Gr No w w') v (filB on p R) ∧ Fr No w w' := by
  have HF := Lib.hid hf
  have c0 := hf.ob.cell 0
  have c1 := hf.ob.cell 1
  rw [hR] at c0
  simp at c0 c1
  have RB := row_built w (UInt8.ofNat p)
  rw [show byt (UInt8.ofNat p) = .int .u8 (p : Int) by unfold byt; rw [UInt8.toNat_ofNat']; congr 1; omega] at RB
  have hfr0 := (Fr.refl No w).alloc (.cells #[.int .u8 (p : Int)] 5)
  have HB := Lib.hid RB
  have HFr0 := Lib.hid hfr0
  have HR := Lib.hid hR
  clear RB hfr0 hf hR
  go_enter Tryd.func23, Tryd.ntmps23
  go_wp2_with fail
  go_loopw [3, 4] (fun v i wr => ∃ r : Nat, i = .int .i64 ((8 * r : Nat) : Int) ∧ r ≤ R ∧ Row wr (Gr No w wr) v (filB on p r) ∧ Fr No w wr) (fun _ i _ => 8 * R - (intOf i).toNat)
  case atStart => exact ⟨0, rfl, Nat.zero_le _, by simpa [filB] using HB.out, HFr0.out⟩
  case round =>
    obtain ⟨r, rfl, hr, hrow, hfr⟩ := hrel
    have fil := HF.out.keep hfr (fun h => h) (fun h => h)
    have d0 := fil.ob.cell 0
    rw [HR.out] at d0
    simp at d0
    by_cases h1 : r < R
    · obtain ⟨I, hI⟩ : ∃ I, 8 * r = I := ⟨_, rfl⟩
      rw [hI]
      have hI2 : I + 8 ≤ 8 * R := by omega
      have hIR : I ≤ 8000000 := by omega
      have hon := fil.on
      obtain ⟨v1, w1, hrun, hrow1, hfr1⟩ := hrow.push grb_lt (UInt8.ofNat (vb on (8 * r) 8)) (by rw [filB_length]; omega)
      have hrow1 := hrow1.join hfr.size hfr1.size
      rw [← filB_succ] at hrow1
      have h256 := vb_lt on (8 * r) 8
      rw [UInt8.toNat_ofNat', hI, show (((vb on I 8 % 2 ^ 8 : Nat)) : Int) = ((vb on I 8 : Nat) : Int) by rw [hI] at h256; omega] at hrun
      have HRUN := Lib.hid hrun
      have HW := Lib.hid hrow1
      have HFr := Lib.hid (hfr.then_ hfr1 fun k hk h => Gr.old hk h)
      have HON := Lib.hid hon
      have HI := Lib.hid hI
      clear hrun hrow hrow1 hfr hfr1 hon hI fil h256
      go_wp2_with fail
      go_loopw [5, 6] (fun cv i wr' => ∃ m c q : Nat, q + m = 8 ∧ i = .int .i64 ((q : Int) - 1) ∧ cv = .int .i64 c ∧ c = vb on I m ∧ wr' = wr) (fun _ i _ => (intOf i + 1).toNat)
      case atStart => exact ⟨0, 0, 8, rfl, rfl, rfl, rfl, rfl⟩
      case round =>
        obtain ⟨m, c, q, hqm, hi, rfl, hc, rfl⟩ := hrel
        have hlt := vb_lt on I m
        rw [← hc] at hlt
        have hpow : 2 ^ m ≤ 256 := Nat.pow_le_pow_right (n := 2) (by omega) (show m ≤ 8 by omega)
        have hc256 : c < 256 := Nat.lt_of_lt_of_le hlt hpow
        cases q with
        | zero =>
          have hm8 : m = 8 := by omega
          subst hm8
          rw [show (((0 : Nat) : Int) - 1) = -1 by omega] at hi
          subst hi
          rw [← hc] at HRUN
          clear hc hlt hpow
          go_wp2_with (at_builtin; refine wpList_append_run rfl _ _ 23 rfl rfl rfl HRUN.out ?_)
          go_roundw
          case rel => exact ⟨r + 1, by have := HI.out; simp; omega, by omega, HW.out, HFr.out⟩
          case measure => simp [intOf]; omega
        | succ q =>
          rw [show (((q + 1 : Nat) : Int) - 1) = (q : Int) by omega] at hi
          subst hi
          have hbit := HON.out.cell (I + q)
          rw [boolsV_at on _ (by rw [HR.out]; omega)] at hbit
          have HV := Lib.hid (show vb on I (m + 1) = c * 2 + bitN on (I + q) by
            show vb on I m * 2 + bitN on (I + 7 - m) = _
            rw [← hc, show I + 7 - m = I + q by omega])
          clear hc hlt hpow
          by_cases hb : on.getD (I + q) false = true
          · rw [hb] at hbit
            have hb1 : bitN on (I + q) = 1 := by unfold bitN; rw [if_pos hb]
            rw [hb1] at HV
            clear hb hb1
            go_wp2_with fail
            go_roundw
            case rel => exact ⟨m + 1, c * 2 + 1, q, by omega, rfl, by simp, HV.out.symm, by simp⟩
            case measure => simp [intOf]
          · have hb' : on.getD (I + q) false = false := by simpa using hb
            rw [hb'] at hbit
            have hb1 : bitN on (I + q) = 0 := by unfold bitN; rw [if_neg hb]
            rw [hb1] at HV
            clear hb hb' hb1
            go_wp2_with fail
            go_roundw
            case rel => exact ⟨m + 1, c * 2 + 0, q, by omega, rfl, by simp, HV.out.symm, by simp⟩
            case measure => simp [intOf]
    · have hrR : r = R := by omega
      subst hrR
      have HW := Lib.hid hrow
      have HFr := Lib.hid hfr
      clear hrow hfr fil
      go_wp2_with fail
      go_ret
      exact ⟨_, rfl, HW.out, HFr.out⟩
end Go.Proofs.YtbglicndccdaiaaDoor
