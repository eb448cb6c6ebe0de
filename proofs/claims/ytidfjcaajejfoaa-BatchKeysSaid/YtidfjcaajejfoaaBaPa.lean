/-
  Layer 10: BatchParses.
-/
import Derived.Test.YtidfjcaajejfoaaBaX
namespace Go.Proofs.Ytidfjcaajejfoaa
set_option linter.unusedVariables false
open Go.RowKit

/-- A batch in a block of its own. -/
theorem box_batch (w : World) (q : Int) (v : Value) :
    ∃ W, w.alloc (.cells #[.int .i64 q, v] 24) = W ∧ Fr No w W ∧ W.cell? ⟨w.heap.size, 0, none⟩ = some (.int .i64 q) ∧ W.cell? ⟨w.heap.size, 1, none⟩ = some v :=
  ⟨_, rfl, (Fr.refl _ _).alloc _, by rw [cell_of_row _ w.heap.size 0 _ _ (0, 0) (heap_alloc_new w _)]; rfl, by rw [cell_of_row _ w.heap.size 1 _ _ (0, 0) (heap_alloc_new w _)]; rfl⟩
theorem allO_wf {q : Int} {l : List Op10} (h : allO q l = true) : (Lit.int .i64 q).wf = true ∧ l.length ≤ 64 := by
  obtain ⟨h1, h2, h3, h4, _⟩ := allO_parts h
  refine ⟨?_, h2⟩
  simp [Lit.wf, IntKind.min, IntKind.max, IntKind.signed, IntKind.bits]
  omega
set_option maxRecDepth 20000 in
set_option maxHeartbeats 3200000 in
theorem bparses_c (H : BatchOK) (w : World) (a : Option Addr) (ca : Nat) (la : List UInt8) (h1 : la.length ≤ ca) (h2 : ca ≤ maxLen) (ra : Rd w a la) :
    Calls Try.prog 4 #[.slice a la.length ca] w (Ask (.bool true) w) := by
  obtain ⟨n, hn⟩ : ∃ n, la.length = n := ⟨_, rfl⟩
  rw [hn] at h1 ⊢
  have h1' : n ≤ maxLen := Nat.le_trans h1 h2
  unfold maxLen at h1'
  have HH := Lib.hid H
  by_cases h5 : (n : Int) > 5000
  · go_enter Try.func4, Try.ntmps4
    go_wp2_with fail
    refine (awake10_c HH.out _).mono ?_
    rintro e w' ⟨rfl, hf⟩
    have HF := Lib.hid hf
    clear hf
    go_wp2_with fail
    go_ret
    exact ⟨rfl, HF.out⟩
  · have HA := Lib.hid ra
    have HN := Lib.hid hn
    have HP := Lib.hid (H.parse a ca n la w hn h1 h2 (by omega) ra)
    clear ra hn H h1 h2
    go_enter Try.func4, Try.ntmps4
    go_wp2_with fail
    refine HP.out.mono ?_
    rintro e w1 ⟨hf1, ⟨q, l, v, hall, hwf, hb, rfl, hrow⟩ | ⟨hno, rfl⟩⟩
    · obtain ⟨a1, c1, rfl, k1, k2, hops⟩ := hrow.ops
      obtain ⟨wq, hl64⟩ := allO_wf hall
      obtain ⟨W, hW, hfW, m0, m1⟩ := box_batch w1 q (.slice a1 l.length c1)
      have hE : errO (allO q l) = .int .i64 0 := by rw [hall]; rfl
      have hB : bytesO q l = la := by unfold bytesO; rw [hall, if_pos rfl, hb]
      have HW := Lib.hid hW
      have HF1 := Lib.hid hf1
      have HFW := Lib.hid hfW
      have HO := Lib.hid (hops.keep hfW fun _ _ h => h)
      have HC := Lib.hid k1
      have HM := Lib.hid k2
      have HWF := Lib.hid hwf
      have HWQ := Lib.hid wq
      have HE := Lib.hid hE
      have HB := Lib.hid hB
      clear hW hf1 hfW hops k1 k2 hwf wq hE hB hrow hb hall HP
      go_wp2_with fail
      rw [HW.out]
      go_wp2_with fail
      refine (HH.out.bytes q a1 c1 l W _ HWQ.out HC.out HM.out HO.out HWF.out).mono ?_
      rintro e w2 ⟨v2, rfl, hrow2, hf2⟩
      rw [HE.out]
      rw [HB.out] at hrow2
      obtain ⟨a2, c2, rfl, _, _, hin2⟩ := hrow2.form
      rw [HN.out]
      have o0 := hf2.cell m0 (fun h => h)
      have o1 := hf2.cell m1 (fun h => h)
      have HO2 := Lib.hid (HO.out.keep hf2 fun _ _ h => h)
      have HF2 := Lib.hid hf2
      have HR2 := Lib.hid hin2.rd
      clear hf2 hrow2 hin2 m0 m1 HW
      go_wp2_with fail
      refine (HH.out.check q a1 c1 l w2 _ HWQ.out HC.out HM.out HO2.out HWF.out).mono ?_
      rintro e w3 ⟨rfl, hf3⟩
      rw [HE.out]
      have HF3 := Lib.hid hf3
      have HFA := Lib.hid ((HF1.out.trans HFW.out).trans (HF2.out.trans hf3))
      clear hf3
      go_wp2_with fail
      refine (same_yes (l := la) (l' := la) HN.out HN.out (HA.out.keep HFA.out) (HR2.out.keep HF3.out) rfl).mono ?_
      rintro e w4 ⟨rfl, rfl⟩
      go_wp2_with fail
      refine (awake10_c HH.out _).mono ?_
      rintro e w5 ⟨rfl, hf5⟩
      have HF5 := Lib.hid hf5
      clear hf5
      go_wp2_with fail
      go_ret
      exact ⟨rfl, HFA.out.trans HF5.out⟩
    · obtain ⟨W, hW, hfW, m0, m1⟩ := box_batch w1 0 (.slice none 0 0)
      have HW := Lib.hid hW
      have HF1 := Lib.hid (hf1.trans hfW)
      clear hW hfW hf1 hno HP
      go_wp2_with fail
      rw [HW.out]
      go_wp2_with fail
      refine (awake10_c HH.out _).mono ?_
      rintro e w5 ⟨rfl, hf5⟩
      have HF5 := Lib.hid hf5
      clear hf5
      go_wp2_with fail
      go_ret
      exact ⟨rfl, HF1.out.trans HF5.out⟩
theorem Ask.below {v : Value} {w : World} {e : Ending} {w' : World} (h : Ask v w e w') : e = .returned v ∧ Below w.heap.size w w' := ⟨h.1, h.2.below (Nat.le_refl _) (fun _ h => h.elim)⟩
theorem batchParses_walk (H : BatchOK) (w : World) (a : Option Addr) (ca : Nat) (la : List UInt8) (h1 : la.length ≤ ca) (h2 : ca ≤ maxLen) (ra : Rd w a la) :
    Calls Try.prog 4 #[.slice a la.length ca] w fun e w' => e = .returned (.bool true) ∧ Below w.heap.size w w' := (bparses_c H w a ca la h1 h2 ra).mono fun _ _ h => h.below
end Go.Proofs.Ytidfjcaajejfoaa
