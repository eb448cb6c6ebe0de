/-
  Layer 10: contracts of the law's small and ref and of the document's Right and All.
-/
import Derived.Test.YtidfjcaajejfoaaBaA
import Derived.Lib.Hide
import Derived.Handy
namespace Go.Proofs.Ytidfjcaajejfoaa
set_option linter.unusedVariables false
open Go.RowKit

/-- A value comes back, and nothing that was there has turned. -/
def Ask (v : Value) (w : World) (e : Ending) (w' : World) : Prop := e = .returned v ∧ Fr No w w'

def rightO (x : Op10) : Bool := decide (1 ≤ x.key.size) && decide (x.key.size ≤ 64) && decide (x.val.size ≤ 4096) && (x.k == 1 || (x.k == 2 && x.val.size == 0))
def allO (q : Int) (l : List Op10) : Bool := decide (1 ≤ l.length) && decide (l.length ≤ 64) && decide (0 ≤ q) && decide (q + l.length ≤ 1099511627776) && l.all rightO
def small10 (l : List Op10) : Bool := l.all (fun x => decide (x.key.size ≤ 5000) && decide (x.val.size ≤ 5000)) && decide (l.length ≤ 70)

theorem empty_toList (s : ByteArray) : s.toList.isEmpty = (s.size == 0) := by
  rw [ByteArray.toList_eq]
  rcases s with ⟨⟨l⟩⟩
  cases l <;> rfl

set_option maxHeartbeats 800000 in
theorem refRight_c (x : Op10) (w : World) (hw : OpWf x) :
    Calls Try.prog 13 #[opV x] w (Ask (.bool (rightO x)) w) := by
  obtain ⟨k, s, v⟩ := x
  obtain ⟨w1, w2, w3⟩ := hw
  simp only at w1 w2 w3
  unfold maxLen at w2 w3
  unfold opV rightO
  simp only
  have e0 := empty_toList v
  by_cases h1 : (s.size : Int) < 1
  · go_enter Try.func13, Try.ntmps13
    go_wp2_with fail
    go_ret
    exact ⟨by simp; omega, (Fr.refl _ _).alloc _⟩
  · by_cases h2 : (s.size : Int) > 64
    · go_enter Try.func13, Try.ntmps13
      go_wp2_with fail
      go_ret
      exact ⟨by simp; omega, (Fr.refl _ _).alloc _⟩
    · by_cases h3 : (v.size : Int) > 4096
      · go_enter Try.func13, Try.ntmps13
        go_wp2_with fail
        go_ret
        exact ⟨by simp; omega, (Fr.refl _ _).alloc _⟩
      · have hs : (decide (1 ≤ s.size) && decide (s.size ≤ 64) && decide (v.size ≤ 4096)) = true := by simp; omega
        rw [hs, Bool.true_and]
        by_cases h4 : k = 1
        · subst h4
          go_enter Try.func13, Try.ntmps13
          go_wp2_with fail
          go_ret
          exact ⟨by simp, (Fr.refl _ _).alloc _⟩
        · by_cases h5 : k = 2
          · subst h5
            go_enter Try.func13, Try.ntmps13
            go_wp2_with fail
            go_ret
            exact ⟨by simp, (Fr.refl _ _).alloc _⟩
          · have e1 : (k == 1) = false := by simpa using h4
            have e2 : (k == 2) = false := by simpa using h5
            go_enter Try.func13, Try.ntmps13
            go_wp2_with fail
            go_ret
            exact ⟨by simp [*], (Fr.refl _ _).alloc _⟩

theorem small10_no {l : List Op10} {i : Nat} {x : Op10} (h : l[i]? = some x) (hx : 5000 < x.key.size ∨ 5000 < x.val.size) : small10 l = false := by
  unfold small10
  rw [Bool.and_eq_false_iff]
  left
  rw [List.all_eq_false]
  refine ⟨x, List.mem_of_getElem? h, ?_⟩
  simp
  omega
theorem small10_all {l : List Op10} (h : ∀ j, j < l.length → (l.getD j op0).key.size ≤ 5000 ∧ (l.getD j op0).val.size ≤ 5000) : small10 l = decide (l.length ≤ 70) := by
  unfold small10
  have : l.all (fun x => decide (x.key.size ≤ 5000) && decide (x.val.size ≤ 5000)) = true := by
    rw [List.all_eq_true]
    intro x hx
    obtain ⟨i, hi, rfl⟩ := List.mem_iff_getElem.1 hx
    have := h i hi
    rw [getD_op l i hi] at this
    simpa using this
  rw [this, Bool.true_and]
theorem small10_yes {l : List Op10} (h : small10 l = true) : l.length ≤ 70 ∧ ∀ x ∈ l, x.key.size ≤ 5000 ∧ x.val.size ≤ 5000 := by
  unfold small10 at h
  rw [Bool.and_eq_true, List.all_eq_true] at h
  exact ⟨by simpa using h.2, fun x hx => by simpa using h.1 x hx⟩
set_option maxRecDepth 20000 in
set_option maxHeartbeats 800000 in
theorem small10_c (q : Int) (a : Option Addr) (cap : Nat) (l : List Op10) (w : World) (hm : l.length ≤ maxLen) (hi : Ops w (fun _ => True) a l) :
    Calls Try.prog 9 #[.agg #[.int .i64 q, .slice a l.length cap]] w (Ask (.bool (small10 l)) w) := by
  unfold maxLen at hm
  obtain ⟨len, hlen⟩ : ∃ len, l.length = len := ⟨_, rfl⟩
  rw [hlen] at hm ⊢
  obtain ⟨W, hW⟩ : ∃ W, w.alloc (.cells #[.int .i64 q, .slice a len cap] 24) = W := ⟨_, rfl⟩
  have hF : Fr No w W := by rw [← hW]; exact (Fr.refl _ _).alloc _
  have hb : W.heap[w.heap.size]? = some (.cells #[.int .i64 q, .slice a len cap] 24) := by rw [← hW]; exact heap_alloc_new w _
  have hc : W.cell? ⟨w.heap.size, 1, none⟩ = some (.slice a len cap) := by rw [cell_of_row W w.heap.size 1 _ _ (0, 0) hb]; rfl
  have HW := Lib.hid hW
  have HF := Lib.hid hF
  have HL := Lib.hid hlen
  have HI := Lib.hid hi
  clear hi hlen hW hF hb
  go_enter Try.func9, Try.ntmps9
  go_wp2_with fail
  rw [HW.out]
  go_loopw [8] (fun i wr => ∃ k : Nat, i = .int .i64 k ∧ k ≤ len ∧ Fr No W wr ∧ ∀ j, j < k → (l.getD j op0).key.size ≤ 5000 ∧ (l.getD j op0).val.size ≤ 5000) (fun i _ => len - (intOf i).toNat)
  case atStart => exact ⟨0, rfl, Nat.zero_le _, Fr.refl _ _, fun j h => absurd h (by omega)⟩
  case round =>
    obtain ⟨k, rfl, hk, hfr, hall⟩ := hrel
    have hc' := hfr.cell hc (fun h => h)
    have HA := Lib.hid hall
    have HR := Lib.hid hfr
    clear hall hfr
    by_cases hlt : k < len
    · have hkl : k < l.length := by rw [HL.out]; exact hlt
      obtain ⟨b, o, _, rfl, hx⟩ := HI.out (by omega)
      have hx := ((hx k hkl).keep HF.out (fun h => h)).keep HR.out (fun h => h)
      have HX : Hid (l[k]? = some (l.getD k op0)) := Lib.hid (by rw [getD_op l k hkl]; exact List.getElem?_eq_getElem hkl)
      have HD := Lib.hid (rfl : l.getD k op0 = l.getD k op0)
      generalize hy : l.getD k op0 = x at hx HX HD
      have HY := Lib.hid hy
      clear hy
      obtain ⟨c0, c1, c2⟩ := hx
      by_cases h5 : 5000 < (x.key.size : Int)
      · have HN := Lib.hid (small10_no HX.out (.inl (by omega)))
        go_wp2_with fail
        go_ret
        exact ⟨by rw [HN.out]; rfl, (HF.out.trans HR.out).alloc _⟩
      · by_cases h6 : 5000 < (x.val.size : Int)
        · have HN := Lib.hid (small10_no HX.out (.inr (by omega)))
          go_wp2_with fail
          go_ret
          exact ⟨by rw [HN.out]; rfl, (HF.out.trans HR.out).alloc _⟩
        · have HA2 : Hid (∀ j, j < k + 1 → (l.getD j op0).key.size ≤ 5000 ∧ (l.getD j op0).val.size ≤ 5000) := Lib.hid (fun j hj => by
            rcases Nat.lt_or_ge j k with h | h
            · exact HA.out j h
            · have : j = k := by omega
              subst this
              rw [HY.out]
              omega)
          go_wp2_with fail
          go_roundw
          case rel => exact ⟨k + 1, by simp, by omega, HR.out.alloc _, HA2.out⟩
          case measure => simp [intOf]; omega
    · have hk' : k = len := by omega
      have HN := Lib.hid (small10_all fun j hj => HA.out j (by rw [hk', ← HL.out]; exact hj))
      rw [HL.out] at HN
      have Hk := Lib.hid hk'
      clear hk'
      go_wp2_with fail
      go_ret
      refine ⟨?_, HF.out.trans HR.out⟩
      rw [HN.out]
      simp
      omega

theorem allO_no {q : Int} {l : List Op10} (h : l.length < 1 ∨ 64 < l.length ∨ q < 0 ∨ 1099511627776 - (l.length : Int) < q) : allO q l = false := by
  unfold allO
  rcases Bool.eq_false_or_eq_true (decide (1 ≤ l.length) && decide (l.length ≤ 64) && decide (0 ≤ q) && decide (q + l.length ≤ 1099511627776)) with h1 | h1
  · simp at h1
    omega
  · rw [h1, Bool.false_and]
theorem allO_no' {q : Int} {l : List Op10} {i : Nat} (hi : i < l.length) (h : rightO (l.getD i op0) = false) : allO q l = false := by
  unfold allO
  rw [Bool.and_eq_false_iff]
  right
  rw [List.all_eq_false]
  refine ⟨_, List.getElem_mem hi, ?_⟩
  rw [getD_op l i hi] at h
  simp [h]
theorem allO_yes {q : Int} {l : List Op10} (h1 : 1 ≤ l.length) (h2 : l.length ≤ 64) (h3 : 0 ≤ q) (h4 : q + l.length ≤ 1099511627776) (h : ∀ j, j < l.length → rightO (l.getD j op0) = true) : allO q l = true := by
  unfold allO
  simp only [Bool.and_eq_true, decide_eq_true_eq, List.all_eq_true]
  refine ⟨⟨⟨⟨h1, h2⟩, h3⟩, h4⟩, fun x hx => ?_⟩
  obtain ⟨i, hi, rfl⟩ := List.mem_iff_getElem.1 hx
  rw [← getD_op l i hi]
  exact h i hi
theorem allO_parts {q : Int} {l : List Op10} (h : allO q l = true) : 1 ≤ l.length ∧ l.length ≤ 64 ∧ 0 ≤ q ∧ q + l.length ≤ 1099511627776 ∧ ∀ x ∈ l, rightO x = true := by
  unfold allO at h
  simp only [Bool.and_eq_true, decide_eq_true_eq, List.all_eq_true] at h
  obtain ⟨⟨⟨⟨h1, h2⟩, h3⟩, h4⟩, h5⟩ := h
  exact ⟨h1, h2, h3, h4, h5⟩
theorem wf_10 {n : Int} (h : (Lit.int .i64 n).wf = true) : -9223372036854775808 ≤ n ∧ n ≤ 9223372036854775807 := by
  simp [Lit.wf, IntKind.min, IntKind.max, IntKind.signed, IntKind.bits] at h
  omega
theorem getD_mem (l : List Op10) (i : Nat) (h : i < l.length) : l.getD i op0 ∈ l := by
  rw [getD_op l i h]
  exact List.getElem_mem h

set_option maxRecDepth 20000 in
set_option maxHeartbeats 1600000 in
theorem refAll_c (q : Int) (a : Option Addr) (cap : Nat) (l : List Op10) (w : World) (S : Nat → Prop) (hq : (Lit.int .i64 q).wf = true) (hm : l.length ≤ maxLen) (hi : Ops w S a l) (hwf : ∀ x ∈ l, OpWf x) :
    Calls Try.prog 15 #[.int .i64 q, .slice a l.length cap] w (Ask (.bool (allO q l)) w) := by
  obtain ⟨hq1, hq2⟩ := wf_10 hq
  unfold maxLen at hm
  have HNO := Lib.hid (fun h => allO_no (q := q) (l := l) h)
  have HNO2 := Lib.hid (fun i h1 h2 => allO_no' (q := q) (l := l) (i := i) h1 h2)
  have HYES := Lib.hid (fun h1 h2 h3 h4 h => allO_yes (q := q) (l := l) h1 h2 h3 h4 h)
  obtain ⟨len, hlen⟩ : ∃ len, l.length = len := ⟨_, rfl⟩
  rw [hlen] at hm HNO HYES ⊢
  have HL := Lib.hid hlen
  have HI := Lib.hid hi
  have HWF := Lib.hid hwf
  clear hi hlen hwf
  generalize allO q l = R at *
  have HR0 : Hid (len < 1 ∨ 64 < len ∨ q < 0 ∨ 1099511627776 - (len : Int) < q → Ending.returned (.bool false) = Ending.returned (.bool R)) := Lib.hid fun h => by rw [HNO.out h]
  by_cases h1 : (len : Int) < 1
  · go_enter Try.func15, Try.ntmps15
    go_wp2_with fail
    go_ret
    exact ⟨HR0.out (by omega), Fr.refl _ _⟩
  · by_cases h2 : (len : Int) > 64
    · go_enter Try.func15, Try.ntmps15
      go_wp2_with fail
      go_ret
      exact ⟨HR0.out (by omega), Fr.refl _ _⟩
    · by_cases h3 : q < 0
      · go_enter Try.func15, Try.ntmps15
        go_wp2_with fail
        go_ret
        exact ⟨HR0.out (by omega), Fr.refl _ _⟩
      · by_cases h4 : q > 1099511627776 - (len : Int)
        · go_enter Try.func15, Try.ntmps15
          go_wp2_with fail
          go_ret
          exact ⟨HR0.out (by omega), Fr.refl _ _⟩
        · have HY := Lib.hid (HYES.out (by omega) (by omega) (by omega) (by omega))
          go_enter Try.func15, Try.ntmps15
          go_wp2_with fail
          go_loopw [5] (fun i wr => ∃ k : Nat, i = .int .i64 k ∧ k ≤ len ∧ Fr No w wr ∧ ∀ j, j < k → rightO (l.getD j op0) = true) (fun i _ => len - (intOf i).toNat)
          case atStart => exact ⟨0, rfl, Nat.zero_le _, Fr.refl _ _, fun j h => absurd h (by omega)⟩
          case round =>
            obtain ⟨k, rfl, hk, hfr, hall⟩ := hrel
            have HA := Lib.hid hall
            have HF := Lib.hid hfr
            clear hall hfr
            by_cases hlt : k < len
            · have hkl : k < l.length := by rw [HL.out]; exact hlt
              obtain ⟨b, o, _, rfl, hx⟩ := HI.out (by omega)
              have hx := (hx k hkl).keep HF.out (fun h => h)
              have HXW := Lib.hid (HWF.out _ (getD_mem l k hkl))
              have HNK := Lib.hid (HNO2.out k hkl)
              generalize hy : l.getD k op0 = x at hx HXW HNK
              have HY2 := Lib.hid hy
              clear hy
              obtain ⟨c0, c1, c2⟩ := hx
              go_wp2_with fail
              refine (refRight_c x wr HXW.out).mono ?_
              rintro e w1 ⟨rfl, hf1⟩
              have HF1 := Lib.hid hf1
              clear hf1
              cases hr : rightO x
              · have HE := Lib.hid (HNK.out hr)
                go_wp2_with fail
                go_ret
                exact ⟨by rw [HE.out]; rfl, HF.out.trans HF1.out⟩
              · have HA2 : Hid (∀ j, j < k + 1 → rightO (l.getD j op0) = true) := Lib.hid (fun j hj => by
                  rcases Nat.lt_or_ge j k with h | h
                  · exact HA.out j h
                  · have : j = k := by omega
                    subst this
                    rw [HY2.out]
                    exact hr)
                go_wp2_with fail
                go_roundw
                case rel => exact ⟨k + 1, by simp, by omega, HF.out.trans HF1.out, HA2.out⟩
                case measure => simp [intOf]; omega
            · have hk' : k = len := by omega
              have HE := Lib.hid (HY.out fun j hj => HA.out j (hk' ▸ hj))
              have Hk := Lib.hid hk'
              clear hk'
              go_wp2_with fail
              go_ret
              exact ⟨by rw [HE.out]; rfl, HF.out⟩
end Go.Proofs.Ytidfjcaajejfoaa
