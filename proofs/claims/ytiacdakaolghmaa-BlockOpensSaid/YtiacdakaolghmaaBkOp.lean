/-
  Layer 12: the walk of BlockOpens.
-/
import Derived.Test.YtiacdakaolghmaaBkC
import Derived.Test.YtiacdakaolghmaaBkF
import Derived.Test.YtiacdakaolghmaaBkU
import Derived.Test.YtiacdakaolghmaaSame
import Derived.Test.YtiacdakaolghmaaWireCp
namespace Go.Proofs.Ytiacdakaolghmaa
set_option linter.unusedVariables false
open Go.RowKit

theorem low_of {e : Nat} {l : List Pr} (h : (blockB e l).length ≤ 3000) : l.length ≤ 1000 ∧ Low 3000 l := by
  have h1 := blockB_len e l
  have h2 := pairsB_ge e l l.length
  refine ⟨by omega, fun i hi => ?_⟩
  have h3 := key_len e l i
  have h4 := congrArg List.length (pairsB_rest e l (l.length - (i + 1)) (i + 1))
  rw [show i + 1 + (l.length - (i + 1)) = l.length by omega, List.length_append] at h4
  omega
theorem rowPrB : RowT Try.prog 22 39 (.agg #[.string ⟨#[]⟩, .string ⟨#[]⟩]) 2 32 := ⟨Try.underlying22, by kernel_rfl, rfl, by decide⟩
set_option maxRecDepth 20000 in
set_option maxHeartbeats 6400000 in
theorem opens12_c {X : World → Nat → (Nat → Prop) → List Pr → Nat → Prop} (H : BlockOK X) (w : World) (a : Option Addr) (n cap : Nat) (b : List UInt8)
    (hn : b.length = n) (hc : n ≤ cap) (hm : cap ≤ maxLen) (hr : Rd w a b) :
    Calls Try.prog 4 #[.slice a n cap] w (PlainRet (.bool true) w) := by
  have AW := Lib.hid (fun w => awake12_c H w)
  have hn' : n ≤ 9223372036854775807 := by unfold maxLen at hm; omega
  have HN := Lib.hid hn
  have HR := Lib.hid hr
  have HH := Lib.hid H
  clear hn hc hm hr H
  by_cases h1 : 3000 < n
  · go_enter Try.func4, Try.ntmps4
    go_wp2_with fail
    refine (AW.out _).mono ?_
    rintro e w2 ⟨rfl, hf2⟩
    go_wp2_with fail
    go_ret
    exact ⟨rfl, hf2⟩
  · have C1 := Lib.hid (copyRef_c a n cap b w HN.out (by omega) HR.out)
    go_enter Try.func4, Try.ntmps4
    go_wp2_with fail
    refine (show Calls _ _ _ _ _ from C1.out).mono ?_
    rintro e w1 ⟨v1, rfl, hr1, hf1⟩
    obtain ⟨a1, c1, rfl, hb1, hm1, hin1⟩ := hr1.form
    rw [HN.out] at hb1 ⊢
    have HF1 := Lib.hid hf1
    have C2 := Lib.hid (HH.out.open_ w1 a1 n c1 b HN.out hb1 hm1 (by omega) hin1.rd)
    clear hr1 hf1 hin1 hb1 hm1 C1
    go_wp2_with fail
    refine (show Calls _ _ _ _ _ from C2.out).mono ?_
    rintro e w2 (⟨l, ev, x, F, he1, he2, ho, hbl, rfl, hx, hF, hf2⟩ | ⟨_, rfl, hf2⟩)
    · have HX := Lib.hid hx
      have HF2 := Lib.hid (HF1.out.trans hf2)
      have HO := Lib.hid ho
      have hlo := low_of (e := ev) (l := l) (by rw [hbl, HN.out]; omega)
      have HBL := Lib.hid hbl
      obtain ⟨m, hm⟩ : ∃ m, l.length = m := ⟨_, rfl⟩
      have HM := Lib.hid hm
      have hml : m ≤ 1000 := hm ▸ hlo.1
      have HLO := Lib.hid hlo.2
      have dO : decide (ordP l) = true := decide_eq_true HO.out
      have CL := Lib.hid (fun (w' : World) (f : Fr No w2 w') => HH.out.len w' x F l ev (HH.out.keep HX.out f fun _ _ h => h))
      rw [HM.out] at CL
      have CE := Lib.hid (fun (w' : World) (f : Fr No w2 w') => HH.out.every w' x F l ev (HH.out.keep HX.out f fun _ _ h => h))
      have CA := Lib.hid (fun (w' : World) (f : Fr No w2 w') (i : Int) (hi : (Lit.int .i64 i).wf = true) => HH.out.at_ w' x F l ev i (HH.out.keep HX.out f fun _ _ h => h) hi)
      have CR := Lib.hid (fun (w' : World) (S : Nat → Prop) (a' : Option Addr) (c' : Nat) (hi : Prs w' S a' l) => ref12_c a' m c' l S w' HM.out (by omega) hi)
      have CO := Lib.hid (fun (w' : World) (S : Nat → Prop) (a' : Option Addr) (c' : Nat) (hi : Prs w' S a' l) => refOrder_c S a' c' l w' (by rw [HM.out]; unfold maxLen; omega) hi (fun i hi => Nat.le_trans (HLO.out i hi).1 (by unfold maxLen; omega)))
      rw [HM.out, dO] at CO
      have CB := Lib.hid (fun (w' : World) (S : Nat → Prop) (a' : Option Addr) (c' : Nat) (hi : Prs w' S a' l) => refBuild_c S a' m c' l ev w' HM.out (by omega) HLO.out he1 he2 hi)
      clear hx hF hf2 ho hlo hbl hm dO C2
      go_wp2_with fail
      refine (show Calls _ _ _ _ _ from CL.out _ (Fr.refl _ _)).mono ?_
      rintro e w3 ⟨rfl, hf3⟩
      have HF3 := Lib.hid hf3
      clear hf3
      go_wp2_with fail
      refine (show Calls _ _ _ _ _ from CL.out _ HF3.out).mono ?_
      rintro e w4 ⟨rfl, hf4⟩
      have HF4 := Lib.hid (HF3.out.trans hf4)
      clear hf4
      go_wp2_with fail
      go_loopw [5, 37] (fun vo i wr => ∃ k : Nat, i = .int .i64 k ∧ k ≤ m ∧ RowG wr (Gr No w2 wr) 39 2 vo k (prsC (l.take k)) ∧ Fr No w2 wr) (fun _ i _ => m - (intOf i).toNat)
      case atStart => exact ⟨0, rfl, Nat.zero_le _, RowG.nil _ _ _ _, HF4.out⟩
      case round =>
        obtain ⟨k, rfl, hk, hrow, hfr⟩ := hrel
        obtain ⟨va, vc, rfl, _, _, _, _⟩ := hrow.form
        have HRo := Lib.hid hrow
        have HFR := Lib.hid hfr
        clear hrow hfr
        by_cases hlt : k < m
        · have hkl : k < l.length := by rw [HM.out]; exact hlt
          have hat : atP l (k : Int) = l.getD k pr0 := by
            unfold atP
            rw [if_pos ⟨by omega, by omega⟩, Int.toNat_natCast]
          have D1 := Lib.hid (fun w' f => CA.out w' f (k : Int) (by simp [Lit.wf, IntKind.min, IntKind.max, IntKind.signed, IntKind.bits]; omega))
          rw [hat] at D1
          unfold prV at D1
          have HT := Lib.hid (take_pr l k hkl)
          have HTL : Hid ((l.take k).length = k) := Lib.hid (by rw [List.length_take]; omega)
          generalize l.getD k pr0 = u at D1 HT
          clear hat
          go_wp2_with fail
          refine (show Calls _ _ _ _ _ from D1.out _ HFR.out).mono ?_
          rintro e w5 ⟨rfl, hf5⟩
          obtain ⟨v', w', hrun, hrow', hfr'⟩ := push_pr rowPrB (by decide) w2 w5 _ k (l.take k) u HTL.out (HRo.out.grow hf5) (HFR.out.trans hf5) (by omega)
          have HRUN := Lib.hid hrun
          have HR2 := Lib.hid hrow'
          have HF5 := Lib.hid hfr'
          clear hrun hrow' hfr' hf5 D1
          go_wp2_with (at_builtin; refine wpList_append_run rfl _ _ 22 rfl rfl rfl HRUN.out ?_)
          go_roundw
          case rel => exact ⟨k + 1, by simp, by omega, by rw [HT.out]; exact HR2.out, HF5.out⟩
          case measure => simp [intOf]; omega
        · obtain rfl : k = m := by omega
          have hpr : Prs wr (Gr No w2 wr) va l := by
            have h := HRo.out
            rw [List.take_of_length_le (by rw [HM.out]; omega)] at h
            rw [← HM.out] at h
            obtain ⟨a', c', hv, _, _, hp⟩ := h.prs
            injection hv with h1 h2 h3
            rw [h1]
            exact hp
          have HP := Lib.hid hpr
          have d1 : (1 : Int) ≤ (ev : Int) := by omega
          have d2 : (ev : Int) ≤ 64 := by omega
          have d3 : decide ((ev : Int) ≥ 1) = true := by rw [decide_eq_true_eq]; omega
          have d4 : decide ((ev : Int) ≤ 64) = true := by rw [decide_eq_true_eq]; omega
          clear hpr
          go_wp2_with fail
          refine (show Calls _ _ _ _ _ from CE.out _ HFR.out).mono ?_
          rintro e w5 ⟨rfl, hf5⟩
          have HF5 := Lib.hid hf5
          clear hf5
          go_wp2_with fail
          refine (show Calls _ _ _ _ _ from CE.out _ (HFR.out.trans HF5.out)).mono ?_
          rintro e w6 ⟨rfl, hf6⟩
          have HF6 := Lib.hid (HF5.out.trans hf6)
          clear hf6
          go_wp2_with fail
          refine (show Calls _ _ _ _ _ from CR.out _ _ _ _ (HP.out.keep HF6.out fun _ _ h => h)).mono ?_
          rintro e w7 ⟨v7, rfl, hr7, hf7⟩
          obtain ⟨a7, c7, rfl, _, _, hp7⟩ := hr7.prs
          have HF7 := Lib.hid (HF6.out.trans hf7)
          have C7 := Lib.hid (CO.out w7 _ a7 c7 hp7)
          rw [HM.out]
          clear hr7 hf7 hp7
          go_wp2_with fail
          refine (show Calls _ _ _ _ _ from C7.out).mono ?_
          rintro e w8 ⟨rfl, hf8⟩
          have HF8 := Lib.hid (HF7.out.trans hf8)
          clear hf8 C7
          go_wp2_with fail
          refine (show Calls _ _ _ _ _ from CR.out _ _ _ _ (HP.out.keep HF8.out fun _ _ h => h)).mono ?_
          rintro e w9 ⟨v9, rfl, hr9, hf9⟩
          obtain ⟨a9, c9, rfl, _, _, hp9⟩ := hr9.prs
          have HF9 := Lib.hid (HF8.out.trans hf9)
          have HP9 := Lib.hid hp9
          rw [HM.out]
          clear hr9 hf9 hp9
          go_wp2_with fail
          refine (show Calls _ _ _ _ _ from CE.out _ (HFR.out.trans HF9.out)).mono ?_
          rintro e w10 ⟨rfl, hf10⟩
          have HF10 := Lib.hid (HF9.out.trans hf10)
          have C10 := Lib.hid (CB.out w10 _ a9 c9 (HP9.out.keep hf10 fun _ _ h => h))
          rw [HBL.out] at C10
          clear hf10
          go_wp2_with fail
          refine (show Calls _ _ _ _ _ from C10.out).mono ?_
          rintro e w11 ⟨v11, rfl, hr11, hf11⟩
          obtain ⟨a11, c11, rfl, _, _, hin11⟩ := hr11.form
          have HF11 := Lib.hid (HF2.out.trans (HFR.out.trans (HF10.out.trans hf11)))
          have C11 := Lib.hid (same_yes (w := w11) HN.out HN.out hin11.rd (HR.out.keep HF11.out) (cap := c11) (cap' := cap) rfl)
          rw [HN.out]
          clear hr11 hf11 hin11 C10
          go_wp2_with fail
          refine (show Calls _ _ _ _ _ from C11.out).mono ?_
          rintro e w12 ⟨rfl, rfl⟩
          go_wp2_with fail
          refine (AW.out _).mono ?_
          rintro e w13 ⟨rfl, hf13⟩
          go_wp2_with fail
          go_ret
          exact ⟨rfl, HF11.out.trans hf13⟩
    · have HF2 := Lib.hid (HF1.out.trans hf2)
      clear hf2
      go_wp2_with fail
      refine (AW.out _).mono ?_
      rintro e w3 ⟨rfl, hf3⟩
      go_wp2_with fail
      go_ret
      exact ⟨rfl, HF2.out.trans hf3⟩
theorem blockOpens_walk {X : World → Nat → (Nat → Prop) → List Pr → Nat → Prop} (H : BlockOK X) (w : World) (a : Option Addr) (cap : Nat) (b : List UInt8) (hc : b.length ≤ cap) (hm : cap ≤ maxLen) (hr : Rd w a b) :
    Calls Try.prog 4 #[.slice a b.length cap] w fun e w' => e = .returned (.bool true) ∧ Below w.heap.size w w' :=
  (opens12_c H w a _ cap b rfl hc hm hr).mono fun _ _ h => ⟨h.1, h.2.below (Nat.le_refl _) (fun _ h => absurd h (fun h => h))⟩
end Go.Proofs.Ytiacdakaolghmaa
