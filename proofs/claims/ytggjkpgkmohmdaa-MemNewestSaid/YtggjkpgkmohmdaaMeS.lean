/-
  Layer 11: the law's small.
-/
import Derived.Test.YtggjkpgkmohmdaaMeX
namespace Go.Proofs.Ytggjkpgkmohmdaa
set_option linter.unusedVariables false
open Go.RowKit

def okOp (y : Op10) : Bool := decide (y.key.size ≤ 200) && decide (y.val.size ≤ 5000)
def okBt (b : Bt) : Bool := decide (b.l.length ≤ 70) && b.l.all okOp
def small11 (l : List Bt) : Bool := l.all okBt && decide (l.length ≤ 30)
theorem okOp_no {y : Op10} (h : 200 < y.key.size ∨ 5000 < y.val.size) : okOp y = false := by
  unfold okOp
  rcases h with h | h
  · rw [decide_eq_false (show ¬ y.key.size ≤ 200 by omega)]; rfl
  · rw [decide_eq_false (show ¬ y.val.size ≤ 5000 by omega), Bool.and_false]
theorem okOp_yes {y : Op10} (h1 : y.key.size ≤ 200) (h2 : y.val.size ≤ 5000) : okOp y = true := by
  unfold okOp
  rw [decide_eq_true h1, decide_eq_true h2]
  rfl
theorem okBt_long {b : Bt} (h : 70 < b.l.length) : okBt b = false := by
  unfold okBt
  rw [decide_eq_false (show ¬ b.l.length ≤ 70 by omega)]
  rfl
theorem okBt_op {b : Bt} {i : Nat} (hi : i < b.l.length) (h : okOp (b.l.getD i op0) = false) : okBt b = false := by
  unfold okBt
  rw [Bool.and_eq_false_iff]
  right
  rw [List.all_eq_false]
  exact ⟨_, getD_mem b.l i hi, by rw [h]; decide⟩
theorem okBt_yes {b : Bt} (h1 : b.l.length ≤ 70) (h : ∀ j, j < b.l.length → okOp (b.l.getD j op0) = true) : okBt b = true := by
  unfold okBt
  rw [decide_eq_true h1, Bool.true_and, List.all_eq_true]
  intro x hx
  obtain ⟨i, hi, rfl⟩ := List.mem_iff_getElem.1 hx
  rw [← getD_op b.l i hi]
  exact h i hi
theorem small11_no {l : List Bt} {i : Nat} (hi : i < l.length) (h : okBt (l.getD i bt0) = false) : small11 l = false := by
  unfold small11
  rw [Bool.and_eq_false_iff]
  left
  rw [List.all_eq_false]
  exact ⟨_, getD_memB l i hi, by rw [h]; decide⟩
theorem small11_all {l : List Bt} (h : ∀ j, j < l.length → okBt (l.getD j bt0) = true) : small11 l = decide (l.length ≤ 30) := by
  unfold small11
  have : l.all okBt = true := by
    rw [List.all_eq_true]
    intro x hx
    obtain ⟨i, hi, rfl⟩ := List.mem_iff_getElem.1 hx
    rw [← getD_bt l i hi]
    exact h i hi
  rw [this, Bool.true_and]
theorem small11_yes {l : List Bt} (h : small11 l = true) : l.length ≤ 30 ∧ ∀ b ∈ l, b.l.length ≤ 70 ∧ ∀ y ∈ b.l, y.key.size ≤ 200 ∧ y.val.size ≤ 5000 := by
  unfold small11 at h
  rw [Bool.and_eq_true, List.all_eq_true] at h
  refine ⟨by simpa using h.2, fun b hb => ?_⟩
  have h2 := h.1 b hb
  unfold okBt at h2
  rw [Bool.and_eq_true, List.all_eq_true] at h2
  refine ⟨by simpa using h2.1, fun y hy => ?_⟩
  have h3 := h2.2 y hy
  unfold okOp at h3
  simpa using h3
set_option maxRecDepth 20000 in
set_option maxHeartbeats 3200000 in
theorem small11_c (a : Option Addr) (cap n : Nat) (l : List Bt) (w : World) (S : Nat → Prop) (hn : l.length = n) (hm : n ≤ maxLen) (hi : Bts w S a l) (hwf : ∀ x ∈ l, BtWf x) :
    Calls Try.prog 8 #[.slice a n cap] w (Ask (.bool (small11 l)) w) := by
  unfold maxLen at hm
  have HN := Lib.hid hn
  have HI := Lib.hid hi
  have HWF := Lib.hid hwf
  have HNO := Lib.hid (fun i (h : i < l.length) => small11_no h)
  have HALL := Lib.hid (fun h => small11_all (l := l) h)
  obtain ⟨R, hR⟩ : ∃ R, small11 l = R := ⟨_, rfl⟩
  rewrite [hR]
  rewrite [hR] at HNO HALL
  rewrite [hn] at HALL
  clear hn hi hwf hR
  go_enter Try.func8, Try.ntmps8
  go_wp2_with fail
  go_loopw [9] (fun i wr => ∃ k : Nat, i = .int .i64 k ∧ k ≤ n ∧ Fr No w wr ∧ ∀ j, j < k → okBt (l.getD j bt0) = true) (fun i _ => n - (intOf i).toNat)
  case atStart => exact ⟨0, rfl, Nat.zero_le _, Fr.refl _ _, fun j h => absurd h (by omega)⟩
  case round =>
    obtain ⟨k, rfl, hk, hfr, hall⟩ := hrel
    have HA := Lib.hid hall
    have HF := Lib.hid hfr
    clear hall hfr
    by_cases hlt : k < n
    · have hkl : k < l.length := by rw [HN.out]; exact hlt
      obtain ⟨b, o, _, rfl, hxs⟩ := HI.out (by omega)
      have hx := hxs k hkl
      have HNK := Lib.hid (HNO.out k hkl)
      have hbw := HWF.out _ (getD_memB l k hkl)
      obtain ⟨x, hx0⟩ : ∃ x, l.getD k bt0 = x := ⟨_, rfl⟩
      rewrite [hx0] at hx HNK hbw
      have HX0 := Lib.hid hx0
      have HOP := Lib.hid hx.ops
      have c0 := HF.out.cell hx.c0 (fun h => h)
      have c1 := HF.out.cell hx.c1 (fun h => h)
      obtain ⟨hq, hlc, hcm, _⟩ := hbw
      unfold maxLen at hcm
      have HLONG := Lib.hid (fun h => okBt_long (b := x) h)
      have HOPN := Lib.hid (fun i (h : i < x.l.length) => okBt_op (b := x) h)
      have HYES := Lib.hid (fun h1 h2 => okBt_yes (b := x) h1 h2)
      obtain ⟨m, hml⟩ : ∃ m, x.l.length = m := ⟨_, rfl⟩
      rewrite [hml] at c1 hlc HLONG HYES
      have HML := Lib.hid hml
      obtain ⟨W3, hW3, hf3, t0, t1⟩ := box_batch wr x.q (.slice x.a m x.c)
      have HW3 := Lib.hid hW3
      have HF3 := Lib.hid (HF.out.trans hf3)
      obtain ⟨D, hD⟩ : ∃ D, wr.heap.size = D := ⟨_, rfl⟩
      rewrite [hD] at t0 t1
      have HD := Lib.hid hD
      rewrite [← hW3] at t0 t1
      clear hx0 hx hxs hml hW3 hf3 hD
      by_cases h70 : (70 : Int) < (m : Int)
      · have HE := Lib.hid (HNK.out (HLONG.out (by omega)))
        go_wp2_with fail
        rw [HW3.out]
        go_ret
        exact ⟨by rw [HE.out]; rfl, HF3.out⟩
      · go_wp2_with fail
        rw [HW3.out, HD.out]
        rewrite [HW3.out] at t0 t1
        go_loopw [20] (fun i wq => ∃ j : Nat, i = .int .i64 j ∧ j ≤ m ∧ Fr No W3 wq ∧ ∀ i, i < j → okOp (x.l.getD i op0) = true) (fun i _ => m - (intOf i).toNat)
        case atStart => exact ⟨0, rfl, Nat.zero_le _, Fr.refl _ _, fun j h => absurd h (by omega)⟩
        case round =>
          obtain ⟨j, rfl, hj, hfr, hall⟩ := hrel
          have HA2 := Lib.hid hall
          have HFQ := Lib.hid hfr
          clear hall hfr c0 c1 t0 t1
          by_cases hjm : j < m
          · have hjl : j < x.l.length := by rw [HML.out]; exact hjm
            obtain ⟨b2, o2, _, ha2, hys⟩ := HOP.out (by omega)
            have hy := (hys j hjl).keep (HF3.out.trans HFQ.out) (fun h => h)
            have HON := Lib.hid (HOPN.out j hjl)
            have HST := Lib.hid (rfl : x.l.getD j op0 = x.l.getD j op0)
            obtain ⟨y, hy0⟩ : ∃ y, x.l.getD j op0 = y := ⟨_, rfl⟩
            rewrite [hy0] at hy HON
            have HY0 := Lib.hid hy0
            obtain ⟨y0, y1, y2⟩ := hy
            obtain ⟨xa, hxa⟩ : ∃ xa, x.a = xa := ⟨_, rfl⟩
            rewrite [ha2]
            clear hy0 hys hxa
            by_cases h5 : (200 : Int) < (y.key.size : Int)
            · have HE := Lib.hid (HNK.out (HON.out (okOp_no (.inl (by omega)))))
              go_wp2_with fail
              go_ret
              exact ⟨by rw [HE.out]; rfl, (HF3.out.trans HFQ.out).alloc _⟩
            · by_cases h6 : (5000 : Int) < (y.val.size : Int)
              · have HE := Lib.hid (HNK.out (HON.out (okOp_no (.inr (by omega)))))
                go_wp2_with fail
                go_ret
                exact ⟨by rw [HE.out]; rfl, (HF3.out.trans HFQ.out).alloc _⟩
              · have HA3 : Hid (∀ i, i < j + 1 → okOp (x.l.getD i op0) = true) := Lib.hid (fun i hi => by
                  rcases Nat.lt_or_ge i j with h | h
                  · exact HA2.out i h
                  · have : i = j := by omega
                    subst this
                    rw [HY0.out]
                    exact okOp_yes (by omega) (by omega))
                go_wp2_with fail
                go_roundw
                case rel => exact ⟨j + 1, by simp, by omega, HFQ.out.alloc _, HA3.out⟩
                case measure => simp [intOf]; omega
          · have hj' : j = m := by omega
            have HOK := Lib.hid (HYES.out (by omega) (fun i hi => HA2.out i (by omega)))
            have HA3 : Hid (∀ j, j < k + 1 → okBt (l.getD j bt0) = true) := Lib.hid (fun j hj => by
              rcases Nat.lt_or_ge j k with h | h
              · exact HA.out j h
              · have : j = k := by omega
                subst this
                rw [HX0.out]
                exact HOK.out)
            go_wp2_with fail
            go_roundw
            case rel => exact ⟨k + 1, by simp, by omega, HF3.out.trans HFQ.out, HA3.out⟩
            case measure => simp [intOf]; omega
    · have hk' : k = n := by omega
      have HE := Lib.hid (HALL.out fun j hj => HA.out j (by omega))
      go_wp2_with fail
      go_ret
      refine ⟨?_, HF.out⟩
      rw [HE.out]
      simp
      omega
end Go.Proofs.Ytggjkpgkmohmdaa
