/-
  Layer 8: the laws' ints (two lists of numbers compared), over any program that has them.
-/
import Derived.Test.YtmkadpjacidlkaaAlB
import Derived.Lib.Hide
import Derived.Handy
namespace Go.Proofs.Ytmkadpjacidlkaa
set_option linter.unusedVariables false
open Go.RowKit

def sameI (a b : List Int) : Bool := decide (a = b)
theorem sameI_len {a b : List Int} (h : a.length ≠ b.length) : sameI a b = false := by
  unfold sameI
  rw [decide_eq_false_iff_not]
  exact fun e => h (congrArg List.length e)
theorem sameI_no {a b : List Int} (i : Nat) (hi : i < a.length) (h : (a.getD i 0 == b.getD i 0) = false) : sameI a b = false := by
  unfold sameI
  rw [decide_eq_false_iff_not]
  intro e
  subst e
  simp at h
theorem sameI_yes {a b : List Int} (hl : a.length = b.length) (h : ∀ i, i < a.length → (a.getD i 0 == b.getD i 0) = true) : sameI a b = true := by
  unfold sameI
  rw [decide_eq_true_eq]
  apply List.ext_getElem hl
  intro i h1 h2
  have := eq_of_beq (h i h1)
  rw [List.getD_eq_getElem?_getD, List.getD_eq_getElem?_getD, List.getElem?_eq_getElem h1, List.getElem?_eq_getElem h2] at this
  exact this
theorem Ints.at_ {w : World} {a : Option Addr} {l : List Int} (h : Ints w a l) (hl : 0 < l.length) : ∃ b o, a = some ⟨b, o, none⟩ ∧ ∀ i, i < l.length → w.cell? ⟨b, o + i, none⟩ = some (.int .i64 (l.getD i 0)) := by
  obtain ⟨b, o, ha, hx⟩ := h hl
  refine ⟨b, o, ha, fun i hi => ?_⟩
  rw [(hx i l[i] (List.getElem?_eq_getElem hi)).1, List.getD_eq_getElem?_getD, List.getElem?_eq_getElem hi]
  rfl
set_option maxRecDepth 20000 in
set_option maxHeartbeats 1600000 in
theorem ints_c (a a' : Option Addr) (c c' : Nat) (l l' : List Int) (w : World) (hl : l.length ≤ 100000) (hl' : l'.length ≤ 100000) (h : Ints w a l) (h' : Ints w a' l') :
    Calls Try.prog 20 #[.slice a l.length c, .slice a' l'.length c'] w fun e w' => e = .returned (.bool (sameI l l')) ∧ Fr No w w' := by
  have HL := Lib.hid (fun h => sameI_len (a := l) (b := l') h)
  have HNO := Lib.hid (fun i hi h => sameI_no (a := l) (b := l') i hi h)
  have HYES := Lib.hid (fun hl h => sameI_yes (a := l) (b := l') hl h)
  have HA := Lib.hid (fun h0 => h.at_ h0)
  have HB := Lib.hid (fun h0 => h'.at_ h0)
  clear h h'
  generalize sameI l l' = R at *
  obtain ⟨n, hn⟩ : ∃ n, l.length = n := ⟨_, rfl⟩
  obtain ⟨n', hn'⟩ : ∃ n, l'.length = n := ⟨_, rfl⟩
  rw [hn] at hl HL HNO HYES HA
  rw [hn'] at hl' HL HYES HB
  rw [hn, hn']
  clear hn hn'
  go_enter Try.func20, Try.ntmps20
  by_cases hne : n = n'
  · subst hne
    have d0 : ((n : Int) == (n : Int)) = true := by simp
    go_wp2_with fail
    go_loopw [13] (fun i wr => ∃ j : Nat, i = .int .i64 j ∧ j ≤ n ∧ Fr No w wr ∧ ∀ t, t < j → (l.getD t 0 == l'.getD t 0) = true) (fun i _ => n - (intOf i).toNat)
    case atStart => exact ⟨0, rfl, Nat.zero_le _, Fr.refl _ _, fun t h => absurd h (Nat.not_lt_zero t)⟩
    case round =>
      obtain ⟨j, rfl, hj, hfr, hall⟩ := hrel
      have HALL := Lib.hid hall
      have HF := Lib.hid hfr
      clear hall hfr
      by_cases h1 : j < n
      · have d1 : decide ((j : Int) < (n : Int)) = true := by rw [decide_eq_true_eq]; omega
        obtain ⟨b, o, rfl, hx⟩ := HA.out (by omega)
        obtain ⟨b', o', rfl, hx'⟩ := HB.out (by omega)
        have q0 := HF.out.cell (hx j h1) (fun h => h)
        have q1 := HF.out.cell (hx' j h1) (fun h => h)
        clear hx hx'
        cases hb : (l.getD j 0 == l'.getD j 0) with
        | false =>
          have HR := Lib.hid (HNO.out j h1 hb)
          generalize l.getD j 0 = x at *
          generalize l'.getD j 0 = y at *
          go_wp2_with fail
          go_region
          go_wp2_with fail
          go_ret
          exact ⟨by rw [HR.out]; rfl, HF.out.drew⟩
        | true =>
          have HA2 : Hid (∀ t, t < j + 1 → (l.getD t 0 == l'.getD t 0) = true) := Lib.hid fun t ht => by
            rcases Nat.lt_or_ge t j with h | h
            · exact HALL.out t h
            · obtain rfl : t = j := by omega
              exact hb
          generalize l.getD j 0 = x at *
          generalize l'.getD j 0 = y at *
          go_wp2_with fail
          go_region
          go_wp2_with fail
          go_roundw
          case rel => exact ⟨j + 1, by simp, by omega, HF.out.drew, HA2.out⟩
          case measure => simp [intOf]; omega
      · obtain rfl : j = n := by omega
        have d1 : decide ((j : Int) < (j : Int)) = false := by simp
        have HR := Lib.hid (HYES.out trivial HALL.out)
        go_wp2_with fail
        go_ret
        exact ⟨by rw [HR.out]; rfl, HF.out⟩
  · have d0 : ((n : Int) == (n' : Int)) = false := by rw [beq_eq_false_iff_ne]; omega
    have HR := Lib.hid (HL.out hne)
    clear hne
    go_wp2_with fail
    go_ret
    exact ⟨by rw [HR.out]; rfl, Fr.refl _ _⟩
section
variable {D : World → Nat → (Nat → Prop) → Dev → Prop}
/-- A device of z zones, all of which may be open. -/
theorem device_c (M : ZoneOK D) (z : Int) (w : World) (wz : wf64 z) (w0 : World) (f : Fr No w0 w) :
    Calls Try.prog 6 #[.int .i64 z] w fun e w' => Fr No w w' ∧ ((¬ (1 ≤ z ∧ z ≤ 64) ∧ e = .returned (.pointer none)) ∨ ((1 ≤ z ∧ z ≤ 64) ∧ ∃ d F, e = .returned (.pointer (some ⟨d, 0, none⟩)) ∧ OwnZ D w0 w' d F (newM z 16 z) ∧ ∀ k, F k → w.heap.size ≤ k)) := by
  have HN := Lib.hid (newZ M z 16 z w wz (by decide) wz w0 f)
  have HI : Hid (rightG z 16 z = true ↔ 1 ≤ z ∧ z ≤ 64) := Lib.hid (by rw [rightG_iff]; omega)
  clear wz f
  go_enter Try.func6, Try.ntmps6
  go_wp2_with fail
  refine HN.out.mono ?_
  rintro e w1 ⟨f1, ⟨hr, rfl⟩ | ⟨hr, d, F, rfl, h1, h2⟩⟩
  · have HF := Lib.hid f1
    have HZ : Hid (¬ (1 ≤ z ∧ z ≤ 64)) := Lib.hid fun h => by rw [HI.out.2 h] at hr; cases hr
    clear f1 hr
    go_wp2_with fail
    go_ret
    exact ⟨HF.out, .inl ⟨HZ.out, rfl⟩⟩
  · have HF := Lib.hid f1
    have HZ := Lib.hid (HI.out.1 hr)
    have H1 := Lib.hid h1
    have H2 := Lib.hid h2
    clear f1 hr h1 h2
    go_wp2_with fail
    go_ret
    exact ⟨HF.out, .inr ⟨HZ.out, d, F, rfl, H1.out, H2.out⟩⟩
end
end Go.Proofs.Ytmkadpjacidlkaa
