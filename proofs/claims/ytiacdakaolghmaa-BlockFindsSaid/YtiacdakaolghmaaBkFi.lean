/-
  Layer 12: the walk of BlockFinds.
-/
import Derived.Test.YtiacdakaolghmaaBkC
import Derived.Test.YtiacdakaolghmaaBkF
import Derived.Test.YtiacdakaolghmaaOpenS
namespace Go.Proofs.Ytiacdakaolghmaa
set_option linter.unusedVariables false
open Go.RowKit

theorem keys_ok {l : List Pr} {m : Nat} (h : Low 300 l) (hm : 300 ≤ m) : ∀ i, i < l.length → (l.getD i pr0).key.size ≤ m := fun i hi => Nat.le_trans (h i hi).1 hm
set_option maxRecDepth 20000 in
set_option maxHeartbeats 6400000 in
theorem finds12_c {X : World → Nat → (Nat → Prop) → List Pr → Nat → Prop} (H : BlockOK X) (w : World) (a : Option Addr) (n cap : Nat) (l : List Pr) (ev : Int) (ka : Option Addr) (kn kc : Nat) (kl : List ByteArray)
    (hn : l.length = n) (hc : n ≤ cap) (hm : cap ≤ maxLen) (hp : Prs w (fun _ => True) a l) (hkn : kl.length = kn) (hkc : kn ≤ kc) (hkm : kc ≤ maxLen) (hk : Strs w ka kl) :
    Calls Try.prog 5 #[.slice a n cap, .int .i64 ev, .slice ka kn kc] w (PlainRet (.bool true) w) := by
  have AW := Lib.hid (fun w => awake12_c H w)
  have CS := Lib.hid (small12_c a n cap l _ w hn (Nat.le_trans hc hm) hp)
  have hn' : n ≤ 9223372036854775807 := by unfold maxLen at hm; omega
  have hkn' : kn ≤ 9223372036854775807 := by unfold maxLen at hkm; omega
  have HN := Lib.hid hn
  have HKN := Lib.hid hkn
  have HC := Lib.hid (show n ≤ cap ∧ cap ≤ maxLen from ⟨hc, hm⟩)
  have HP := Lib.hid hp
  have HK := Lib.hid hk
  have HH := Lib.hid H
  clear hn hkn hc hm hp hk hkc hkm H
  by_cases hs : Small12 l
  · have dS : decide (Small12 l) = true := decide_eq_true hs
    rw [dS] at CS
    have HS := Lib.hid hs
    have h80 : n ≤ 80 := HN.out ▸ hs.2
    clear dS hs
    by_cases h1 : 40 < kn
    · go_enter Try.func5, Try.ntmps5
      go_wp2_with fail
      refine (show Calls _ _ _ _ _ from CS.out).mono ?_
      rintro e w1 ⟨rfl, hf1⟩
      have HF1 := Lib.hid hf1
      clear hf1
      go_wp2_with fail
      refine (AW.out _).mono ?_
      rintro e w2 ⟨rfl, hf2⟩
      go_wp2_with fail
      go_ret
      exact ⟨rfl, HF1.out.trans hf2⟩
    · by_cases h2 : ev < 1
      · go_enter Try.func5, Try.ntmps5
        go_wp2_with fail
        refine (show Calls _ _ _ _ _ from CS.out).mono ?_
        rintro e w1 ⟨rfl, hf1⟩
        have HF1 := Lib.hid hf1
        clear hf1
        go_wp2_with fail
        refine (AW.out _).mono ?_
        rintro e w2 ⟨rfl, hf2⟩
        go_wp2_with fail
        go_ret
        exact ⟨rfl, HF1.out.trans hf2⟩
      · by_cases h3 : 64 < ev
        · go_enter Try.func5, Try.ntmps5
          go_wp2_with fail
          refine (show Calls _ _ _ _ _ from CS.out).mono ?_
          rintro e w1 ⟨rfl, hf1⟩
          have HF1 := Lib.hid hf1
          clear hf1
          go_wp2_with fail
          refine (AW.out _).mono ?_
          rintro e w2 ⟨rfl, hf2⟩
          go_wp2_with fail
          go_ret
          exact ⟨rfl, HF1.out.trans hf2⟩
        · obtain ⟨ee, rfl⟩ : ∃ ee : Nat, ev = (ee : Int) := ⟨ev.toNat, by omega⟩
          have he1 : 1 ≤ ee := by omega
          have he2 : ee ≤ 64 := by omega
          have CR := Lib.hid (fun (w' : World) (f : Fr No w w') => ref12_c a n cap l _ w' HN.out (by omega) (HP.out.keep f fun _ _ h => h))
          have CO := Lib.hid (fun (w' : World) (S : Nat → Prop) (a' : Option Addr) (c' : Nat) (hi : Prs w' S a' l) => refOrder_c S a' c' l w' (by rw [HN.out]; unfold maxLen; omega) hi (keys_ok HS.out.1 (by unfold maxLen; omega)))
          rw [HN.out] at CO
          by_cases ho : ordP l
          · have dO : decide (ordP l) = true := decide_eq_true ho
            rw [dO] at CO
            have HO := Lib.hid ho
            clear ho dO
            have CB := Lib.hid (fun (w' : World) (f : Fr No w w') => build_ok HH.out w' _ a n cap l ee HN.out HC.out.1 HC.out.2 h80 HS.out.1 (HP.out.keep f fun _ _ h => h) he1 he2 HO.out)
            have CP := Lib.hid (fun (w' : World) (a' : Option Addr) (n' c' : Nat) h1 h2 h3 h4 => open_ok HH.out w' a' n' c' l ee h1 h2 h3 HS.out.2 HS.out.1 h4 he1 he2 HO.out)
            go_enter Try.func5, Try.ntmps5
            go_wp2_with fail
            refine (show Calls _ _ _ _ _ from CS.out).mono ?_
            rintro e w1 ⟨rfl, hf1⟩
            have HF1 := Lib.hid hf1
            clear hf1
            go_wp2_with fail
            refine (show Calls _ _ _ _ _ from CR.out _ HF1.out).mono ?_
            rintro e w2 ⟨v2, rfl, hr2, hf2⟩
            obtain ⟨a2, c2, rfl, _, _, hp2⟩ := hr2.prs
            have HF2 := Lib.hid (HF1.out.trans hf2)
            have C2 := Lib.hid (CO.out w2 _ a2 c2 hp2)
            rw [HN.out]
            clear hr2 hf2 hp2
            go_wp2_with fail
            refine (show Calls _ _ _ _ _ from C2.out).mono ?_
            rintro e w3 ⟨rfl, hf3⟩
            have HF3 := Lib.hid (HF2.out.trans hf3)
            clear hf3 C2
            go_wp2_with fail
            refine (show Calls _ _ _ _ _ from CB.out _ HF3.out).mono ?_
            rintro e w4 ⟨v4, rfl, hr4, hf4⟩
            obtain ⟨a4, c4, rfl, hb4, hm4, hin4⟩ := hr4.form
            have HF4 := Lib.hid (HF3.out.trans hf4)
            have C4 := Lib.hid (CP.out w4 a4 _ c4 rfl hb4 hm4 hin4.rd)
            generalize (blockB ee l).length = m4 at C4 ⊢
            clear hr4 hf4 hin4 hb4 hm4
            go_wp2_with fail
            refine (show Calls _ _ _ _ _ from C4.out).mono ?_
            rintro e w5 ⟨x, F, rfl, hx5, hF5, hf5⟩
            have HF5 := Lib.hid (HF4.out.trans hf5)
            have HX5 := Lib.hid hx5
            clear hf5 hx5 hF5 C4
            have CF := Lib.hid (fun (w' : World) (f : Fr No w5 w') (kk : ByteArray) (h : kk.size ≤ 1000) => HH.out.find w' x F l ee kk (HH.out.keep HX5.out f fun _ _ h => h) h)
            have CG := Lib.hid (fun (w' : World) (S : Nat → Prop) (a' : Option Addr) (c' : Nat) (kk : ByteArray) (hi : Prs w' S a' l) (h : kk.size ≤ 1000) => refFind_c S a' c' l kk w' (by rw [HN.out]; unfold maxLen; omega) hi (keys_ok HS.out.1 (by unfold maxLen; omega)) (by unfold maxLen; omega))
            rw [HN.out] at CG
            go_wp2_with fail
            go_loopw [57] (fun i wr => ∃ k : Nat, i = .int .i64 k ∧ k ≤ kn ∧ Fr No w5 wr) (fun i _ => kn - (intOf i).toNat)
            case atStart => exact ⟨0, rfl, Nat.zero_le _, Fr.refl _ _⟩
            case round =>
              obtain ⟨k, rfl, hkk, hfr⟩ := hrel
              have HFR := Lib.hid hfr
              clear hfr
              by_cases hlt : k < kn
              · have hkl : k < kl.length := by rw [HKN.out]; exact hlt
                obtain ⟨b, o, rfl, hxs⟩ := HK.out (by omega)
                have hx := (hxs k (kl.getD k ByteArray.empty) (by rw [List.getD_eq_getElem?_getD, List.getElem?_eq_getElem hkl]; rfl)).1
                have c0 := HFR.out.cell (HF5.out.cell hx (fun h => h)) (fun h => h)
                obtain ⟨kk, hkk2⟩ : ∃ kk, kl.getD k ByteArray.empty = kk := ⟨_, rfl⟩
                rewrite [hkk2] at c0
                clear hxs hx hkk2
                by_cases h3 : (kk.size : Int) ≤ 300
                · have C6 := Lib.hid (fun w' f => CF.out w' f kk (by omega))
                  have C7 := Lib.hid (fun w' S a' c' hi => CG.out w' S a' c' kk hi (by omega))
                  generalize findP l kk = R at C6 C7
                  have hb : ((R : Int) != (R : Int)) = false := by simp
                  go_wp2_with fail
                  refine (show Calls _ _ _ _ _ from C6.out _ HFR.out).mono ?_
                  rintro e w6 ⟨rfl, hf6⟩
                  have HF6 := Lib.hid (HFR.out.trans hf6)
                  clear hf6 C6
                  go_wp2_with fail
                  refine (show Calls _ _ _ _ _ from CR.out _ (HF5.out.trans HF6.out)).mono ?_
                  rintro e w7 ⟨v7, rfl, hr7, hf7⟩
                  obtain ⟨a7, c7, rfl, _, _, hp7⟩ := hr7.prs
                  have HF7 := Lib.hid (HF6.out.trans hf7)
                  have C8 := Lib.hid (C7.out w7 _ a7 c7 hp7)
                  rw [HN.out]
                  clear hr7 hf7 hp7 C7
                  go_wp2_with fail
                  refine (show Calls _ _ _ _ _ from C8.out).mono ?_
                  rintro e w8 ⟨rfl, hf8⟩
                  have HF8 := Lib.hid (HF7.out.trans hf8)
                  clear hf8 C8
                  go_wp2_with fail
                  go_roundw
                  case rel => exact ⟨k + 1, by simp, by omega, HF8.out⟩
                  case measure => simp [intOf]; omega
                · go_wp2_with fail
                  go_roundw
                  case rel => exact ⟨k + 1, by simp, by omega, HFR.out⟩
                  case measure => simp [intOf]; omega
              · go_wp2_with fail
                go_loopw [77] (fun i wq => ∃ k : Nat, i = .int .i64 k ∧ k ≤ n ∧ Fr No w5 wq) (fun i _ => n - (intOf i).toNat)
                case atStart => exact ⟨0, rfl, Nat.zero_le _, HFR.out⟩
                case round =>
                  clear HFR
                  obtain ⟨j, rfl, hj, hfr⟩ := hrel
                  have HFR := Lib.hid hfr
                  clear hfr
                  by_cases hlt2 : j < n
                  · have hjl : j < l.length := by rw [HN.out]; exact hlt2
                    obtain ⟨b, o, _, rfl, hxs⟩ := HP.out (by omega)
                    have hx := ((hxs j hjl).keep HF5.out (fun h => h)).keep HFR.out (fun h => h)
                    have hz := HS.out.1 j hjl
                    have f1 := find_own HO.out hjl
                    have f2 := find_after HO.out hjl
                    obtain ⟨y, hy⟩ : ∃ y, l.getD j pr0 = y := ⟨_, rfl⟩
                    rewrite [hy] at hx hz f1 f2
                    have C6 := Lib.hid (fun w' f => CF.out w' f y.key (by omega))
                    have C7 := Lib.hid (fun w' f => CF.out w' f (y.key ++ zero1) (by
                      rw [ByteArray.size_append]
                      have : zero1.size = 1 := rfl
                      omega))
                    rw [f1] at C6
                    rw [f2] at C7
                    obtain ⟨c0, c1⟩ := hx
                    have hz2 : zero1.size = 1 := rfl
                    have hz3 : ¬ 9223372036854775807 < y.key.size + 1 := by omega
                    have hz4 : ¬ 9223372036854775806 < y.key.size := by omega
                    have hz5 : y.key.size ≤ 9223372036854775806 := by omega
                    clear hxs hy hz f1 f2
                    have hb : ((j : Int) != (j : Int)) = false := by simp
                    have hz1 : (⟨#[0]⟩ : ByteArray) = zero1 := rfl
                    go_wp2_with fail
                    refine (show Calls _ _ _ _ _ from C6.out _ (HFR.out.alloc _)).mono ?_
                    rintro e w6 ⟨rfl, hf6⟩
                    have HF6 := Lib.hid ((HFR.out.alloc (.cells #[.string y.key, .string y.val] 39)).trans hf6)
                    have g0 : w6.cell? ⟨wr.heap.size, 0, none⟩ = some (.string y.key) := hf6.cell (by rw [cell_of_row _ _ _ _ _ _ (heap_alloc_new _ _)]; rfl) (fun h => h)
                    clear hf6 C6
                    go_wp2_with fail
                    refine (show Calls _ _ _ _ _ from C7.out _ HF6.out).mono ?_
                    rintro e w7 ⟨rfl, hf7⟩
                    have HF7 := Lib.hid (HF6.out.trans hf7)
                    clear hf7 C7 g0
                    go_wp2_with fail
                    go_roundw
                    case rel => exact ⟨j + 1, by simp, by omega, HF7.out⟩
                    case measure => simp [intOf]; omega
                  · go_wp2_with fail
                    refine (AW.out _).mono ?_
                    rintro e w6 ⟨rfl, hf6⟩
                    have HF6 := Lib.hid (HF5.out.trans (HFR.out.trans hf6))
                    clear hf6
                    go_wp2_with fail
                    go_ret
                    exact ⟨rfl, HF6.out⟩
          · have dO : decide (ordP l) = false := decide_eq_false ho
            rw [dO] at CO
            clear ho dO
            go_enter Try.func5, Try.ntmps5
            go_wp2_with fail
            refine (show Calls _ _ _ _ _ from CS.out).mono ?_
            rintro e w1 ⟨rfl, hf1⟩
            have HF1 := Lib.hid hf1
            clear hf1
            go_wp2_with fail
            refine (show Calls _ _ _ _ _ from CR.out _ HF1.out).mono ?_
            rintro e w2 ⟨v2, rfl, hr2, hf2⟩
            obtain ⟨a2, c2, rfl, _, _, hp2⟩ := hr2.prs
            have HF2 := Lib.hid (HF1.out.trans hf2)
            have C2 := Lib.hid (CO.out w2 _ a2 c2 hp2)
            rw [HN.out]
            clear hr2 hf2 hp2
            go_wp2_with fail
            refine (show Calls _ _ _ _ _ from C2.out).mono ?_
            rintro e w3 ⟨rfl, hf3⟩
            have HF3 := Lib.hid (HF2.out.trans hf3)
            clear hf3 C2
            go_wp2_with fail
            refine (AW.out _).mono ?_
            rintro e w4 ⟨rfl, hf4⟩
            go_wp2_with fail
            go_ret
            exact ⟨rfl, HF3.out.trans hf4⟩
  · have dS : decide (Small12 l) = false := decide_eq_false hs
    rw [dS] at CS
    clear dS hs
    go_enter Try.func5, Try.ntmps5
    go_wp2_with fail
    refine (show Calls _ _ _ _ _ from CS.out).mono ?_
    rintro e w1 ⟨rfl, hf1⟩
    have HF1 := Lib.hid hf1
    clear hf1
    go_wp2_with fail
    refine (AW.out _).mono ?_
    rintro e w2 ⟨rfl, hf2⟩
    go_wp2_with fail
    go_ret
    exact ⟨rfl, HF1.out.trans hf2⟩
theorem blockFinds_walk {X : World → Nat → (Nat → Prop) → List Pr → Nat → Prop} (H : BlockOK X) (w : World) (a : Option Addr) (cap : Nat) (l : List Pr) (hc : l.length ≤ cap) (hm : cap ≤ maxLen) (hp : Prs w (fun _ => True) a l) (hw : ∀ x ∈ l, PrWf x) (ev : Int) (wv : (Lit.int .i64 ev).wf = true)
    (ka : Option Addr) (kc : Nat) (kl : List ByteArray) (hkc : kl.length ≤ kc) (hkm : kc ≤ maxLen) (hk : Strs w ka kl) :
    Calls Try.prog 5 #[.slice a l.length cap, .int .i64 ev, .slice ka kl.length kc] w fun e w' => e = .returned (.bool true) ∧ Below w.heap.size w w' :=
  (finds12_c H w a _ cap l ev ka _ kc kl rfl hc hm hp rfl hkc hkm hk).mono fun _ _ h => ⟨h.1, h.2.below (Nat.le_refl _) (fun _ h => absurd h (fun h => h))⟩
end Go.Proofs.Ytiacdakaolghmaa
