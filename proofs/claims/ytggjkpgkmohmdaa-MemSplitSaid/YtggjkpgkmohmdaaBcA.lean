/-
  Layer 10, the program's own: Check of an op and of a batch.
-/
import Derived.Test.YtggjkpgkmohmdaaBaO
namespace Go.Proofs.Ytggjkpgkmohmdaa
set_option linter.unusedVariables false
open Go.RowKit

theorem rightO_key {x : Op10} (h : x.key.size < 1 ∨ 64 < x.key.size) : rightO x = false := by
  unfold rightO
  rcases h with h | h
  · rw [decide_eq_false (show ¬ 1 ≤ x.key.size by omega)]; rfl
  · rw [decide_eq_false (show ¬ x.key.size ≤ 64 by omega), Bool.and_false]; rfl
theorem rightO_kind {x : Op10} (h1 : 1 ≤ x.key.size) (h2 : x.key.size ≤ 64) : rightO x = (decide (x.val.size ≤ 4096) && (x.k == 1 || (x.k == 2 && x.val.size == 0))) := by
  unfold rightO
  rw [decide_eq_true h1, decide_eq_true h2]
  rfl
set_option maxHeartbeats 1600000 in
theorem ocheck_c (x : Op10) (w : World) (hw : OpWf x) : Calls Try.prog 40 #[opV x] w (Ask (errO (rightO x)) w) := by
  have HK := Lib.hid (rightO_key (x := x))
  have HKD := Lib.hid (rightO_kind (x := x))
  obtain ⟨k, s, v⟩ := x
  obtain ⟨w1, w2, w3⟩ := hw
  simp only at w1 w2 w3 HK HKD
  unfold maxLen at w2 w3
  unfold opV
  simp only
  obtain ⟨R, hR⟩ : ∃ R, rightO ⟨k, s, v⟩ = R := ⟨_, rfl⟩
  obtain ⟨E, hE⟩ : ∃ E, errO R = E := ⟨_, rfl⟩
  rw [hR, hE]
  rw [hR] at HK HKD
  have HE := Lib.hid hE
  clear hR hE
  by_cases h1 : (s.size : Int) < 1
  · have HR := Lib.hid (HK.out (.inl (by omega)))
    go_enter Try.func40, Try.ntmps40
    go_wp2_with fail
    go_ret
    exact ⟨by rw [← HE.out, HR.out]; rfl, (Fr.refl _ _).alloc _⟩
  · by_cases h2 : (s.size : Int) > 64
    · have HR := Lib.hid (HK.out (.inr (by omega)))
      go_enter Try.func40, Try.ntmps40
      go_wp2_with fail
      go_ret
      exact ⟨by rw [← HE.out, HR.out]; rfl, (Fr.refl _ _).alloc _⟩
    · have HR := Lib.hid (HKD.out (by omega) (by omega))
      by_cases h4 : k = 1
      · subst h4
        by_cases h3 : (v.size : Int) ≤ 4096
        · have HR : Hid (R = true) := Lib.hid (by rw [HR.out]; simp; omega)
          have h3' : decide ((v.size : Int) ≤ 4096) = true := by simpa using h3
          go_enter Try.func40, Try.ntmps40
          go_wp2_with fail
          go_ret
          exact ⟨by rw [← HE.out, HR.out]; rfl, (Fr.refl _ _).alloc _⟩
        · have HR : Hid (R = false) := Lib.hid (by rw [HR.out]; simp; omega)
          have h3' : decide ((v.size : Int) ≤ 4096) = false := by simpa using h3
          go_enter Try.func40, Try.ntmps40
          go_wp2_with fail
          go_ret
          exact ⟨by rw [← HE.out, HR.out]; rfl, (Fr.refl _ _).alloc _⟩
      · have e1 : (k == 1) = false := by simpa using h4
        by_cases h5 : k = 2
        · subst h5
          by_cases h6 : v.size = 0
          · have HR : Hid (R = true) := Lib.hid (by rw [HR.out, h6]; rfl)
            have e2 : v.toList.isEmpty = true := by rw [empty_toList, h6]; rfl
            clear h6
            go_enter Try.func40, Try.ntmps40
            go_wp2_with fail
            go_ret
            exact ⟨by rw [← HE.out, HR.out]; rfl, (Fr.refl _ _).alloc _⟩
          · have HR : Hid (R = false) := Lib.hid (by rw [HR.out]; simp [h6])
            have e2 : v.toList.isEmpty = false := by rw [empty_toList]; simpa using h6
            clear h6
            go_enter Try.func40, Try.ntmps40
            go_wp2_with fail
            go_ret
            exact ⟨by rw [← HE.out, HR.out]; rfl, (Fr.refl _ _).alloc _⟩
        · have e2 : (k == 2) = false := by simpa using h5
          have HR : Hid (R = false) := Lib.hid (by rw [HR.out, e1, e2]; simp)
          go_enter Try.func40, Try.ntmps40
          go_wp2_with fail
          go_ret
          exact ⟨by rw [← HE.out, HR.out]; rfl, (Fr.refl _ _).alloc _⟩
set_option maxRecDepth 20000 in
set_option maxHeartbeats 1600000 in
theorem bcheck_c (q : Int) (a : Option Addr) (cap : Nat) (l : List Op10) (w : World) (S : Nat → Prop) (hq : (Lit.int .i64 q).wf = true) (hc : l.length ≤ cap) (hm : cap ≤ maxLen) (hi : Ops w S a l) (hwf : ∀ x ∈ l, OpWf x) :
    Calls Try.prog 22 #[.agg #[.int .i64 q, .slice a l.length cap]] w (Ask (errO (allO q l)) w) := by
  obtain ⟨hq1, hq2⟩ := wf_10 hq
  have hm : l.length ≤ maxLen := Nat.le_trans hc hm
  unfold maxLen at hm
  have HNO := Lib.hid (fun h => allO_no (q := q) (l := l) h)
  have HNO2 := Lib.hid (fun i h1 h2 => allO_no' (q := q) (l := l) (i := i) h1 h2)
  have HYES := Lib.hid (fun h1 h2 h3 h4 h => allO_yes (q := q) (l := l) h1 h2 h3 h4 h)
  obtain ⟨len, hlen⟩ : ∃ len, l.length = len := ⟨_, rfl⟩
  rw [hlen] at hm HNO HYES ⊢
  obtain ⟨W, hW, hfW, m0, m1⟩ := box_batch w q (.slice a len cap)
  have HL := Lib.hid hlen
  have HI := Lib.hid hi
  have HWF := Lib.hid hwf
  have HW := Lib.hid hW
  have HFW := Lib.hid hfW
  clear hi hlen hwf hW hfW hc
  generalize allO q l = R at *
  have HR0 : Hid (len < 1 ∨ 64 < len ∨ q < 0 ∨ 1099511627776 - (len : Int) < q → Ending.returned (.int .i64 100) = Ending.returned (errO R)) := Lib.hid fun h => by rw [HNO.out h]; rfl
  have hwr : IntKind.i64.wrap (1099511627776 - (len : Int)) = 1099511627776 - (len : Int) := IntWalk.i64_in _ (by omega)
  by_cases h1 : (len : Int) < 1
  · go_enter Try.func22, Try.ntmps22
    go_wp2_with fail
    rw [HW.out]
    go_wp2_with fail
    go_ret
    exact ⟨HR0.out (by omega), HFW.out⟩
  · by_cases h2 : (len : Int) > 64
    · go_enter Try.func22, Try.ntmps22
      go_wp2_with fail
      rw [HW.out]
      go_wp2_with fail
      go_ret
      exact ⟨HR0.out (by omega), HFW.out⟩
    · by_cases h3 : q < 0
      · go_enter Try.func22, Try.ntmps22
        go_wp2_with fail
        rw [HW.out]
        go_wp2_with fail
        go_ret
        exact ⟨HR0.out (by omega), HFW.out⟩
      · by_cases h4 : q > 1099511627776 - (len : Int)
        · go_enter Try.func22, Try.ntmps22
          go_wp2_with fail
          rw [HW.out]
          go_wp2_with fail
          go_ret
          exact ⟨HR0.out (by omega), HFW.out⟩
        · have HY := Lib.hid (HYES.out (by omega) (by omega) (by omega) (by omega))
          go_enter Try.func22, Try.ntmps22
          go_wp2_with fail
          rw [HW.out]
          go_wp2_with fail
          go_loopw [31] (fun i wr => ∃ k : Nat, i = .int .i64 k ∧ k ≤ len ∧ Fr No W wr ∧ ∀ j, j < k → rightO (l.getD j op0) = true) (fun i _ => len - (intOf i).toNat)
          case atStart => exact ⟨0, rfl, Nat.zero_le _, Fr.refl _ _, fun j h => absurd h (by omega)⟩
          case round =>
            obtain ⟨k, rfl, hk, hfr, hall⟩ := hrel
            have HA := Lib.hid hall
            have HF := Lib.hid hfr
            clear hall hfr
            by_cases hlt : k < len
            · have hkl : k < l.length := by rw [HL.out]; exact hlt
              obtain ⟨b, o, _, rfl, hx⟩ := HI.out (by omega)
              have hx := (hx k hkl).keep (HFW.out.trans HF.out) (fun h => h)
              have HXW := Lib.hid (HWF.out _ (getD_mem l k hkl))
              have HNK := Lib.hid (HNO2.out k hkl)
              generalize hy : l.getD k op0 = x at hx HXW HNK
              have HY2 := Lib.hid hy
              clear hy
              obtain ⟨c0, c1, c2⟩ := hx
              obtain ⟨W3, hW3, hf3, hat⟩ := box_op wr x
              have HW3 := Lib.hid hW3
              have HF3 := Lib.hid (HF.out.trans hf3)
              obtain ⟨t0, t1, t2⟩ := hat
              obtain ⟨D, hD⟩ : ∃ D, wr.heap.size = D := ⟨_, rfl⟩
              rw [hD] at t0 t1 t2
              have HD := Lib.hid hD
              have HOC := Lib.hid (fun w' => ocheck_c x w' HXW.out)
              rw [← hW3] at t0 t1 t2
              clear hW3 hf3 hD
              unfold opV at HOC
              go_wp2_with fail
              refine (HOC.out _).mono ?_
              rw [HW3.out]
              rintro e w1 ⟨rfl, hf1⟩
              have HF1 := Lib.hid hf1
              clear hf1 t0 t1 t2 c0 c1 c2
              cases hr : rightO x
              · have HE := Lib.hid (HNK.out hr)
                unfold errO
                go_wp2_with fail
                go_ret
                exact ⟨by rw [HE.out]; rfl, HFW.out.trans (HF3.out.trans HF1.out)⟩
              · have HA2 : Hid (∀ j, j < k + 1 → rightO (l.getD j op0) = true) := Lib.hid (fun j hj => by
                  rcases Nat.lt_or_ge j k with h | h
                  · exact HA.out j h
                  · have : j = k := by omega
                    subst this
                    rw [HY2.out]
                    exact hr)
                unfold errO
                go_wp2_with fail
                go_roundw
                case rel => exact ⟨k + 1, by simp, by omega, HF3.out.trans HF1.out, HA2.out⟩
                case measure => simp [intOf]; omega
            · have hk' : k = len := by omega
              have HE := Lib.hid (HY.out fun j hj => HA.out j (hk' ▸ hj))
              have Hk := Lib.hid hk'
              clear hk'
              go_wp2_with fail
              go_ret
              exact ⟨by rw [HE.out]; rfl, HFW.out.trans HF.out⟩
end Go.Proofs.Ytggjkpgkmohmdaa
