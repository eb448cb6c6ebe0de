/-
  Layer 6: what the laws ask of the program's Check, Merge and Find ('MergeOK': shown elsewhere); awake; the walks of MergeFinds and MergeIs.
-/
import Derived.Test.YtkcgdmhggndhfaaMgE
import Derived.Test.YtkcgdmhggndhfaaOpenM
namespace Go.Proofs.Ytkcgdmhggndhfaa
set_option linter.unusedVariables false
open Go.RowKit

def okN (b : Bool) : Int := if b then 0 else 31
/-- What Merge tells. -/
def MergeRet (rs : List Rn) (w : World) (e : Ending) (w' : World) : Prop :=
  ∃ b c l, e = .returned (.tuple #[.slice b l.length c, .int .i64 (okN (runsR rs))]) ∧ l.length ≤ c ∧ c ≤ maxLen ∧ InP w' (From w.heap.size) b l ∧ l = (if runsR rs then oneP (lens rs) else []) ∧ Fr No w w'
/-- THE CONTRACTS of Check, Merge and Find. -/
structure MergeOK : Prop where
  check : ∀ (S : Nat → Prop) (a : Option Addr) (cap : Nat) (l : List P2) (w : World), l.length ≤ 1000 → l.length ≤ cap → cap ≤ maxLen → InP w S a l →
    Calls Try.prog 13 #[.slice a l.length cap] w fun e w' => e = .returned (.int .i64 (okN (runP l))) ∧ Fr No w w'
  merge : ∀ (S : Nat → Prop) (a : Option Addr) (cap : Nat) (rs : List Rn) (w : World), rs.length ≤ 10 → (∀ x ∈ rs, x.l.length ≤ 100) → rs.length ≤ cap → cap ≤ maxLen → InR w S a rs →
    Calls Try.prog 12 #[.slice a rs.length cap] w (MergeRet rs w)
  find : ∀ (S : Nat → Prop) (a : Option Addr) (cap : Nat) (l : List P2) (k : Int) (w : World), l.length ≤ 1000 → l.length ≤ cap → cap ≤ maxLen → runP l = true → InP w S a l →
    Calls Try.prog 18 #[.slice a l.length cap, .int .i64 k] w fun e w' => e = .returned (.tuple #[.int .i64 (ceilP l k : Int), .bool (hasP l k)]) ∧ Fr No w w'
def Yes (w : World) (e : Ending) (w' : World) : Prop := e = .returned (.bool true) ∧ Fr No w w'
theorem runsR_lens (rs : List Rn) : runsR rs = (lens rs).all runP := by
  unfold runsR lens
  rw [List.all_map]
  rfl
set_option maxRecDepth 20000 in
set_option maxHeartbeats 2000000 in
theorem awake_c (M : MergeOK) (w : World) : Calls Try.prog 10 #[] w (Yes w) := by
  have HM := Lib.hid M
  have A0 := At.new w 49 #[.int .i64 1, .int .i64 7, .int .i64 3, .int .i64 8]
  have f0 := (Fr.refl No w).alloc (.cells #[.int .i64 1, .int .i64 7, .int .i64 3, .int .i64 8] 49)
  have z0 : (w.alloc (.cells #[.int .i64 1, .int .i64 7, .int .i64 3, .int .i64 8] 49)).heap.size = w.heap.size + 1 := by simp
  obtain ⟨W1, hW1⟩ : ∃ x, w.alloc (.cells #[.int .i64 1, .int .i64 7, .int .i64 3, .int .i64 8] 49) = x := ⟨_, rfl⟩
  rw [hW1] at A0 f0 z0
  have A1 := At.new W1 49 #[.int .i64 1, .int .i64 9, .int .i64 2, .int .i64 5]
  have f1 := (Fr.refl No W1).alloc (.cells #[.int .i64 1, .int .i64 9, .int .i64 2, .int .i64 5] 49)
  have z1 : (W1.alloc (.cells #[.int .i64 1, .int .i64 9, .int .i64 2, .int .i64 5] 49)).heap.size = w.heap.size + 2 := by simp [z0]
  obtain ⟨W2, hW2⟩ : ∃ x, W1.alloc (.cells #[.int .i64 1, .int .i64 9, .int .i64 2, .int .i64 5] 49) = x := ⟨_, rfl⟩
  rw [hW2] at A1 f1 z1
  rw [z0] at A1
  have A2 := At.new W2 27 #[.slice (some ⟨w.heap.size, 0, none⟩) 2 2, .slice (some ⟨w.heap.size + 1, 0, none⟩) 2 2]
  have f2 := (Fr.refl No W2).alloc (.cells #[.slice (some ⟨w.heap.size, 0, none⟩) 2 2, .slice (some ⟨w.heap.size + 1, 0, none⟩) 2 2] 27)
  have B1 := A1.keep f2 (fun h => h)
  have B0 := (A0.keep f1 (fun h => h)).keep f2 (fun h => h)
  rw [z1] at A2
  obtain ⟨W3, hW3⟩ : ∃ x, W2.alloc (.cells #[.slice (some ⟨w.heap.size, 0, none⟩) 2 2, .slice (some ⟨w.heap.size + 1, 0, none⟩) 2 2] 27) = x := ⟨_, rfl⟩
  rw [hW3] at A2 B1 B0 f2
  have HF := Lib.hid ((f0.trans f1).trans f2)
  have HIR : Hid (InR W3 (fun _ => True) (some ⟨w.heap.size + 2, 0, none⟩) [⟨some ⟨w.heap.size, 0, none⟩, 2, [(1, 7), (3, 8)]⟩, ⟨some ⟨w.heap.size + 1, 0, none⟩, 2, [(1, 9), (2, 5)]⟩]) := Lib.hid fun _ => ⟨w.heap.size + 2, 0, trivial, rfl, fun i x hx => by
    match i, hx with
    | 0, hx =>
      obtain rfl := Option.some.inj hx
      refine ⟨A2.cell 0, Nat.le_refl _, by unfold maxLen; show (2 : Nat) ≤ _; omega, fun _ => ⟨w.heap.size, 0, trivial, rfl, fun t ht => ?_⟩⟩
      match t, ht with
      | 0, _ => exact ⟨B0.cell 0, B0.cell 1⟩
      | 1, _ => exact ⟨B0.cell 2, B0.cell 3⟩
      | t + 2, ht => exact absurd ht (by simp)
    | 1, hx =>
      obtain rfl := Option.some.inj hx
      refine ⟨A2.cell 1, Nat.le_refl _, by unfold maxLen; show (2 : Nat) ≤ _; omega, fun _ => ⟨w.heap.size + 1, 0, trivial, rfl, fun t ht => ?_⟩⟩
      match t, ht with
      | 0, _ => exact ⟨B1.cell 0, B1.cell 1⟩
      | 1, _ => exact ⟨B1.cell 2, B1.cell 3⟩
      | t + 2, ht => exact absurd ht (by simp)
    | i + 2, hx => cases hx⟩
  have HME : Hid (Calls Try.prog 12 #[.slice (some ⟨w.heap.size + 2, 0, none⟩) 2 2] W3 fun e w' => ∃ g o c, e = .returned (.tuple #[.slice (some ⟨g, o, none⟩) 3 c, .int .i64 0]) ∧ 3 ≤ c ∧ c ≤ maxLen ∧ w'.cell? ⟨g, o + 1, none⟩ = some (.int .i64 7) ∧ w'.cell? ⟨g, o + 2, none⟩ = some (.int .i64 2) ∧ w'.cell? ⟨g, o + 5, none⟩ = some (.int .i64 8) ∧ Fr No W3 w') := Lib.hid (by
    refine (M.merge _ _ 2 _ W3 (by simp) (by intro x hx; simp at hx; rcases hx with rfl | rfl <;> simp) (by simp) (by unfold maxLen; omega) HIR.out).mono ?_
    rintro e w' ⟨b, c, l, rfl, h1, h2, h3, h4, h5⟩
    have e1 : runsR [(⟨some ⟨w.heap.size, 0, none⟩, 2, [(1, 7), (3, 8)]⟩ : Rn), ⟨some ⟨w.heap.size + 1, 0, none⟩, 2, [(1, 9), (2, 5)]⟩] = true := by
      rw [runsR_lens]
      show ([[(1, 7), (3, 8)], [(1, 9), (2, 5)]] : List (List P2)).all runP = true
      decide
    rw [e1] at h4
    have h4 : l = [(1, 7), (2, 5), (3, 8)] := h4.trans (show oneP [[(1, 7), (3, 8)], [(1, 9), (2, 5)]] = _ by decide)
    subst h4
    obtain ⟨g, o, _, rfl, hc⟩ := h3 (by simp)
    refine ⟨g, o, c, by rw [e1]; rfl, h1, h2, ?_, ?_, ?_, h5⟩
    · exact (hc 0 (by simp)).2
    · exact (hc 1 (by simp)).1
    · exact (hc 2 (by simp)).2)
  clear A0 A1 A2 B0 B1 f0 f1 f2
  go_enter Try.func10, Try.ntmps10
  go_wp2_with fail
  refine HME.out.mono ?_
  rintro e w4 ⟨g, o, c, rfl, h1, h2, c1, c2, c3, f4⟩
  unfold maxLen at h2
  have HF4 := Lib.hid (HF.out.trans f4)
  clear f4 HME HIR hW1 hW2 hW3
  go_wp2_with fail
  go_ret
  exact ⟨rfl, HF4.out⟩
set_option maxRecDepth 20000 in
set_option maxHeartbeats 2000000 in
theorem mergeFinds_walk (M : MergeOK) (W : World) (a : Option Addr) (cap : Nat) (l : List P2) (hc : l.length ≤ cap) (hm : cap ≤ maxLen) (rd : InP W (Till W.heap.size) a l) (k : Int) (wf : (Lit.int .i64 k).wf = true) :
    Calls Try.prog 4 #[.slice a l.length cap, .int .i64 k] W fun e w' => e = .returned (.bool true) ∧ Below W.heap.size W w' := by
  have HM := Lib.hid M
  have HRD := Lib.hid rd
  have HCM := Lib.hid hm
  unfold maxLen at hm
  have HRUN : Hid (l.length ≤ 100 → Calls Try.prog 14 #[.slice a l.length cap] W fun e w' => e = .returned (.bool (runP l)) ∧ Fr No W w') := Lib.hid fun h => refRun_c _ a cap l W (by omega) rd
  have HIT : Hid (l.length ≤ 100 → ∀ w, Fr No W w → Calls Try.prog 19 #[.slice a l.length cap] w fun e w' => ∃ u, e = .returned u ∧ PairsV w.heap.size l u w' ∧ Fr No w w') := Lib.hid fun h w f => items_c _ a cap l w (by omega) hc HCM.out (rd.keep f (fun _ _ h => h))
  have HCE : Hid (l.length ≤ 100 → ∀ w, Fr No W w → Calls Try.prog 20 #[.slice a l.length cap, .int .i64 k] w fun e w' => e = .returned (.int .i64 (ceilP l k : Int)) ∧ w = w') := Lib.hid fun h w f => refCeil_c _ a cap l k w (by omega) (rd.keep f (fun _ _ h => h))
  have HHA : Hid (l.length ≤ 100 → ∀ w, Fr No W w → Calls Try.prog 21 #[.slice a l.length cap, .int .i64 k] w fun e w' => e = .returned (.bool (hasP l k)) ∧ w = w') := Lib.hid fun h w f => refHas_c _ a cap l k w (by omega) (rd.keep f (fun _ _ h => h))
  have fin : ∀ w' : World, Fr No W w' → Below W.heap.size W w' := fun w' f => f.below (Nat.le_refl _) (fun _ h => h.elim)
  have FIN := Lib.hid fin
  clear fin rd wf
  obtain ⟨n, hn⟩ : ∃ n, l.length = n := ⟨_, rfl⟩
  rw [hn] at hc HRUN HIT HCE HHA
  rw [hn]
  have HN := Lib.hid hn
  clear hn
  go_enter Try.func4, Try.ntmps4
  by_cases hbig : 100 < n
  · have d1 : decide ((100 : Int) < (n : Int)) = true := by rw [decide_eq_true_eq]; omega
    go_wp2_with fail
    refine (awake_c HM.out _).mono ?_
    rintro e w2 ⟨rfl, f2⟩
    have HF2 := Lib.hid f2
    clear f2
    go_wp2_with fail
    go_ret
    exact ⟨rfl, FIN.out _ HF2.out⟩
  have d1 : decide ((100 : Int) < (n : Int)) = false := by rw [decide_eq_false_iff_not]; omega
  have HRUN2 := Lib.hid (HRUN.out (by omega))
  cases hr : runP l with
  | false =>
    rw [hr] at HRUN2
    clear hr
    go_wp2_with fail
    refine HRUN2.out.mono ?_
    rintro e w1 ⟨rfl, f1⟩
    have HF1 := Lib.hid f1
    clear f1
    go_wp2_with fail
    refine (awake_c HM.out _).mono ?_
    rintro e w2 ⟨rfl, f2⟩
    have HF2 := Lib.hid (HF1.out.trans f2)
    clear f2
    go_wp2_with fail
    go_ret
    exact ⟨rfl, FIN.out _ HF2.out⟩
  | true =>
    rw [hr] at HRUN2
    have HR := Lib.hid hr
    clear hr
    go_wp2_with fail
    refine HRUN2.out.mono ?_
    rintro e w1 ⟨rfl, f1⟩
    have HF1 := Lib.hid f1
    clear f1
    go_wp2_with fail
    refine (HIT.out (by omega) w1 HF1.out).mono ?_
    rintro e w2 ⟨u, rfl, ⟨ua, uc, rfl, ule, ucm, uin⟩, f2⟩
    have HF2 := Lib.hid (HF1.out.trans f2)
    have HFD := Lib.hid (HM.out.find _ ua uc l k w2 (by rw [HN.out]; omega) ule ucm HR.out uin)
    rw [HN.out] at HFD ule
    rw [HN.out]
    clear f2 uin ucm
    obtain ⟨H, hH⟩ : ∃ b, hasP l k = b := ⟨_, rfl⟩
    rw [hH] at HFD HHA
    obtain ⟨C, hCC⟩ : ∃ b, ceilP l k = b := ⟨_, rfl⟩
    rw [hCC] at HFD HCE
    clear hH hCC
    go_wp2_with fail
    refine HFD.out.mono ?_
    rintro e w3 ⟨rfl, f3⟩
    have HF3 := Lib.hid (HF2.out.trans f3)
    clear f3
    have d2 : ((C : Int) == (C : Int)) = true := by simp
    go_wp2_with fail
    refine (HCE.out (by omega) w3 HF3.out).mono ?_
    rintro e w4 ⟨rfl, rfl⟩
    go_wp2_with fail
    refine (HHA.out (by omega) w3 HF3.out).mono ?_
    rintro e w4 ⟨rfl, rfl⟩
    cases H
    · go_wp2_with fail
      refine (awake_c HM.out _).mono ?_
      rintro e w5 ⟨rfl, f5⟩
      have HF5 := Lib.hid (HF3.out.trans f5)
      clear f5
      go_wp2_with fail
      go_ret
      exact ⟨rfl, FIN.out _ HF5.out⟩
    · go_wp2_with fail
      refine (awake_c HM.out _).mono ?_
      rintro e w5 ⟨rfl, f5⟩
      have HF5 := Lib.hid (HF3.out.trans f5)
      clear f5
      go_wp2_with fail
      go_ret
      exact ⟨rfl, FIN.out _ HF5.out⟩
end Go.Proofs.Ytkcgdmhggndhfaa
