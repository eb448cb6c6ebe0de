/-
  Layer 12: the walk of BlockSame.
-/
import Derived.Test.YtiacdakaolghmaaBkC
import Derived.Test.YtiacdakaolghmaaBkF
import Derived.Test.YtiacdakaolghmaaSame
namespace Go.Proofs.Ytiacdakaolghmaa
set_option linter.unusedVariables false
open Go.RowKit

set_option maxRecDepth 20000 in
set_option maxHeartbeats 6400000 in
theorem same12_c {X : World → Nat → (Nat → Prop) → List Pr → Nat → Prop} (H : BlockOK X) (w : World) (a : Option Addr) (n cap : Nat) (l : List Pr) (ea eb : Int)
    (hn : l.length = n) (hc : n ≤ cap) (hm : cap ≤ maxLen) (hp : Prs w (fun _ => True) a l) :
    Calls Try.prog 8 #[.slice a n cap, .int .i64 ea, .int .i64 eb] w (PlainRet (.bool true) w) := by
  have AW := Lib.hid (fun w => awake12_c H w)
  have CS := Lib.hid (small12_c a n cap l _ w hn (Nat.le_trans hc hm) hp)
  have hn' : n ≤ 9223372036854775807 := by unfold maxLen at hm; omega
  have HN := Lib.hid hn
  have HC := Lib.hid (show n ≤ cap ∧ cap ≤ maxLen from ⟨hc, hm⟩)
  have HP := Lib.hid hp
  have HH := Lib.hid H
  clear hn hc hm hp H
  by_cases hs : Small12 l
  · have dS : decide (Small12 l) = true := decide_eq_true hs
    rw [dS] at CS
    have HS := Lib.hid hs
    have h80 : n ≤ 80 := HN.out ▸ hs.2
    clear dS hs
    have CR := Lib.hid (fun (w' : World) (f : Fr No w w') => ref12_c a n cap l _ w' HN.out (by omega) (HP.out.keep f fun _ _ h => h))
    have CO := Lib.hid (fun (w' : World) (S : Nat → Prop) (a' : Option Addr) (c' : Nat) (hi : Prs w' S a' l) => refOrder_c S a' c' l w' (by rw [HN.out]; unfold maxLen; omega) hi (fun i hi => Nat.le_trans (HS.out.1 i hi).1 (by unfold maxLen; omega)))
    rw [HN.out] at CO
    by_cases ho : ordP l
    · have dO : decide (ordP l) = true := decide_eq_true ho
      rw [dO] at CO
      have HO := Lib.hid ho
      clear ho dO
      by_cases hg : 1 ≤ ea ∧ ea ≤ 64 ∧ 1 ≤ eb ∧ eb ≤ 64
      · obtain ⟨g1, g2, g3, g4⟩ := hg
        obtain ⟨ee, rfl⟩ : ∃ ee : Nat, ea = (ee : Int) := ⟨ea.toNat, by omega⟩
        obtain ⟨ff, rfl⟩ : ∃ ff : Nat, eb = (ff : Int) := ⟨eb.toNat, by omega⟩
        have CB := Lib.hid (fun (ee : Nat) (he1 : 1 ≤ ee) (he2 : ee ≤ 64) (w' : World) (f : Fr No w w') => build_ok HH.out w' _ a n cap l ee HN.out HC.out.1 HC.out.2 h80 HS.out.1 (HP.out.keep f fun _ _ h => h) he1 he2 HO.out)
        have CP := Lib.hid (fun (ee : Nat) (he1 : 1 ≤ ee) (he2 : ee ≤ 64) (w' : World) (a' : Option Addr) (n' c' : Nat) h1 h2 h3 h4 => open_ok HH.out w' a' n' c' l ee h1 h2 h3 HS.out.2 HS.out.1 h4 he1 he2 HO.out)
        have HSM : Hid ((blockB ee l == blockB ff l) = ((ee : Int) == (ff : Int))) := Lib.hid (by
          by_cases h : ee = ff
          · subst h
            simp
          · have h1 : ¬ blockB ee l = blockB ff l := fun hh => h (blockB_inj (by omega) (by omega) (by have := blockB_small (e := ff) HS.out.1 HS.out.2; omega) hh).1
            have h2 : ((ee : Int) == (ff : Int)) = false := by simp; omega
            rw [h2]
            simpa using h1)
        go_enter Try.func8, Try.ntmps8
        go_wp2_with fail
        refine (show Calls _ _ _ _ _ from CS.out).mono ?_
        rintro e w1 ⟨rfl, hf1⟩
        have HF1 := Lib.hid hf1
        clear hf1
        go_wp2_with fail
        refine (show Calls _ _ _ _ _ from CR.out _ HF1.out).mono ?_
        rintro e w2 ⟨v2, rfl, hr2, hf2⟩
        obtain ⟨a2, c2, rfl, _, _, hp2⟩ := hr2.prs
        have HF2 := Lib.hid (HF1.out.trans hf2)
        have C2 := Lib.hid (CO.out w2 _ a2 c2 hp2)
        rw [HN.out]
        clear hr2 hf2 hp2
        go_wp2_with fail
        refine (show Calls _ _ _ _ _ from C2.out).mono ?_
        rintro e w3 ⟨rfl, hf3⟩
        have HF3 := Lib.hid (HF2.out.trans hf3)
        clear hf3 C2
        go_wp2_with fail
        refine (show Calls _ _ _ _ _ from CB.out ee (by omega) (by omega) _ HF3.out).mono ?_
        rintro e w4 ⟨v4, rfl, hr4, hf4⟩
        obtain ⟨a4, c4, rfl, hb4, hm4, hin4⟩ := hr4.form
        have HF4 := Lib.hid (HF3.out.trans hf4)
        obtain ⟨m4, hm4'⟩ : ∃ m, (blockB ee l).length = m := ⟨_, rfl⟩
        rw [hm4'] at hb4 ⊢
        have HB4 := Lib.hid (show m4 ≤ c4 ∧ c4 ≤ maxLen ∧ (blockB ee l).length = m4 from ⟨hb4, hm4, hm4'⟩)
        have HR4 := Lib.hid hin4.rd
        clear hr4 hf4 hin4 hb4 hm4 hm4'
        go_wp2_with fail
        refine (show Calls _ _ _ _ _ from CB.out ff (by omega) (by omega) _ HF4.out).mono ?_
        rintro e w5 ⟨v5, rfl, hr5, hf5⟩
        obtain ⟨a5, c5, rfl, hb5, hm5, hin5⟩ := hr5.form
        have HF5 := Lib.hid (HF4.out.trans hf5)
        obtain ⟨m5, hm5'⟩ : ∃ m, (blockB ff l).length = m := ⟨_, rfl⟩
        rw [hm5'] at hb5 ⊢
        have HB5 := Lib.hid (show m5 ≤ c5 ∧ c5 ≤ maxLen ∧ (blockB ff l).length = m5 from ⟨hb5, hm5, hm5'⟩)
        have HR5 := Lib.hid hin5.rd
        have HR45 := Lib.hid (HR4.out.keep hf5)
        clear hr5 hf5 hin5 hb5 hm5 hm5' HR4
        have C5 := Lib.hid (CP.out ee (by omega) (by omega) w5 a4 m4 c4 HB4.out.2.2 HB4.out.1 HB4.out.2.1 HR45.out)
        go_wp2_with fail
        refine (show Calls _ _ _ _ _ from C5.out).mono ?_
        rintro e w6 ⟨x, F, rfl, hx6, hF6, hf6⟩
        have HF56 := Lib.hid hf6
        have HX6 := Lib.hid hx6
        clear hf6 hx6 hF6 C5
        have C6 := Lib.hid (CP.out ff (by omega) (by omega) w6 a5 m5 c5 HB5.out.2.2 HB5.out.1 HB5.out.2.1 (HR5.out.keep HF56.out))
        go_wp2_with fail
        refine (show Calls _ _ _ _ _ from C6.out).mono ?_
        rintro e w7 ⟨y, G, rfl, hy7, hG7, hf7⟩
        have HF57 := Lib.hid (HF56.out.trans hf7)
        have HX7 := Lib.hid (HH.out.keep HX6.out hf7 fun _ _ h => h)
        have HY7 := Lib.hid hy7
        have HF7 := Lib.hid (HF5.out.trans HF57.out)
        clear hf7 hy7 hG7 C6 HX6
        have CL1 := Lib.hid (fun (w' : World) (f : Fr No w7 w') => HH.out.len w' x F l ee (HH.out.keep HX7.out f fun _ _ h => h))
        have CL2 := Lib.hid (fun (w' : World) (f : Fr No w7 w') => HH.out.len w' y G l ff (HH.out.keep HY7.out f fun _ _ h => h))
        rw [HN.out] at CL1 CL2
        have hbn : ((n : Int) != (n : Int)) = false := by simp
        go_wp2_with fail
        refine (show Calls _ _ _ _ _ from CL1.out _ (Fr.refl _ _)).mono ?_
        rintro e w8 ⟨rfl, hf8⟩
        have HF8 := Lib.hid hf8
        clear hf8
        go_wp2_with fail
        refine (show Calls _ _ _ _ _ from CL2.out _ HF8.out).mono ?_
        rintro e w9 ⟨rfl, hf9⟩
        have HF9 := Lib.hid (HF8.out.trans hf9)
        clear hf9
        have CA1 := Lib.hid (fun (w' : World) (f : Fr No w7 w') (i : Int) (hi : (Lit.int .i64 i).wf = true) => HH.out.at_ w' x F l ee i (HH.out.keep HX7.out f fun _ _ h => h) hi)
        have CA2 := Lib.hid (fun (w' : World) (f : Fr No w7 w') (i : Int) (hi : (Lit.int .i64 i).wf = true) => HH.out.at_ w' y G l ff i (HH.out.keep HY7.out f fun _ _ h => h) hi)
        have CF1 := Lib.hid (fun (w' : World) (f : Fr No w7 w') (kk : ByteArray) (h : kk.size ≤ 1000) => HH.out.find w' x F l ee kk (HH.out.keep HX7.out f fun _ _ h => h) h)
        have CF2 := Lib.hid (fun (w' : World) (f : Fr No w7 w') (kk : ByteArray) (h : kk.size ≤ 1000) => HH.out.find w' y G l ff kk (HH.out.keep HY7.out f fun _ _ h => h) h)
        go_wp2_with fail
        go_loopw [96] (fun i wr => ∃ k : Nat, i = .int .i64 k ∧ k ≤ n ∧ Fr No w7 wr) (fun i _ => n - (intOf i).toNat)
        case atStart => exact ⟨0, rfl, Nat.zero_le _, HF9.out⟩
        case round =>
          obtain ⟨j, rfl, hj, hfr⟩ := hrel
          have HFR := Lib.hid hfr
          clear hfr
          by_cases hlt : j < n
          · have hjl : j < l.length := by rw [HN.out]; exact hlt
            obtain ⟨b, o, _, rfl, hxs⟩ := HP.out (by omega)
            have hx := ((hxs j hjl).keep HF7.out (fun h => h)).keep HFR.out (fun h => h)
            have hz := HS.out.1 j hjl
            have hat : atP l (j : Int) = l.getD j pr0 := by
              unfold atP
              rw [if_pos ⟨by omega, by omega⟩, Int.toNat_natCast]
            obtain ⟨u, hu⟩ : ∃ u, l.getD j pr0 = u := ⟨_, rfl⟩
            rewrite [hu] at hx hz hat
            have hwj : (Lit.int .i64 (j : Int)).wf = true := by simp [Lit.wf, IntKind.min, IntKind.max, IntKind.signed, IntKind.bits]; omega
            have D1 := Lib.hid (fun w' f => CA1.out w' f (j : Int) hwj)
            have D2 := Lib.hid (fun w' f => CA2.out w' f (j : Int) hwj)
            rw [hat] at D1 D2
            unfold prV at D1 D2
            have D3 := Lib.hid (fun w' f => CF1.out w' f u.key (by omega))
            have D4 := Lib.hid (fun w' f => CF2.out w' f u.key (by omega))
            generalize findP l u.key = R at D3 D4
            obtain ⟨c0, c1⟩ := hx
            clear hxs hu hz hat hwj
            obtain ⟨W, hW⟩ : ∃ W, wr.alloc (.cells #[.string u.key, .string u.val] 39) = W := ⟨_, rfl⟩
            obtain ⟨B, hB⟩ : ∃ B, wr.heap.size = B := ⟨_, rfl⟩
            have g0 : W.cell? ⟨B, 0, none⟩ = some (.string u.key) := by rw [← hW, ← hB, cell_of_row _ _ _ _ _ _ (heap_alloc_new _ _)]; rfl
            have hfx : Fr No w7 W.drew := by rw [← hW]; exact (HFR.out.alloc _).drew
            have e0 : (u.key.toList == u.key.toList) = true := beq_self_eq_true _
            have e1 : (u.val.toList == u.val.toList) = true := beq_self_eq_true _
            have e2 : ((R : Int) != (R : Int)) = false := by simp
            have HW := Lib.hid hW
            have HB := Lib.hid hB
            clear hW hB
            go_wp2_with fail
            simp only [HW.out, HB.out]
            go_region_held3 (fun w' => w'.cell? ⟨B, 0, none⟩ = some (.string u.key) ∧ Fr No w7 w') (first | assumption | go_keep)
              (first
                | (go_at_call 19; (with_reducible refine (D1.out _ hfx).mono ?_); intro e w6 hret; obtain ⟨rfl, hf6⟩ := hret
                   have g0 := hf6.cell (p := ⟨B, 0, none⟩) g0 (fun h => h)
                   have hfx := hfx.trans hf6
                   clear hf6)
                | (go_at_call 19; (with_reducible refine (D2.out _ hfx).mono ?_); intro e w6 hret; obtain ⟨rfl, hf6⟩ := hret
                   have g0 := hf6.cell (p := ⟨B, 0, none⟩) g0 (fun h => h)
                   have hfx := hfx.trans hf6
                   clear hf6)
                | (go_at_call 22; (with_reducible refine (D3.out _ hfx).mono ?_); intro e w6 hret; obtain ⟨rfl, hf6⟩ := hret
                   have g0 := hf6.cell (p := ⟨B, 0, none⟩) g0 (fun h => h)
                   have hfx := hfx.trans hf6
                   clear hf6)
                | (go_at_call 22; (with_reducible refine (D4.out _ hfx).mono ?_); intro e w6 hret; obtain ⟨rfl, hf6⟩ := hret
                   have g0 := hf6.cell (p := ⟨B, 0, none⟩) g0 (fun h => h)
                   have hfx := hfx.trans hf6
                   clear hf6))
            have HFX := Lib.hid hfx
            clear hfx
            go_wp2_with fail
            go_roundw
            case rel => exact ⟨j + 1, by simp, by omega, HFX.out⟩
            case measure => simp [intOf]; omega
          · have hf := HF57.out.trans HFR.out
            have C8 := Lib.hid (same_c a4 a5 m4 c4 m5 c5 (blockB ee l) (blockB ff l) wr HB4.out.2.2 HB5.out.2.2 (HR45.out.keep hf) (HR5.out.keep hf))
            rw [HSM.out] at C8
            have e0 : ∀ b : Bool, (b == b) = true := fun b => by simp
            clear hf
            go_wp2_with fail
            refine (show Calls _ _ _ _ _ from C8.out).mono ?_
            rintro e w6 ⟨rfl, rfl⟩
            go_wp2_with fail
            refine (AW.out _).mono ?_
            rintro e w6 ⟨rfl, hf6⟩
            have HF6 := Lib.hid (HF7.out.trans (HFR.out.trans hf6))
            clear hf6
            go_wp2_with fail
            go_ret
            exact ⟨rfl, HF6.out⟩
      · have hg' : (ea < 1) ∨ (¬ ea < 1 ∧ 64 < ea) ∨ (¬ ea < 1 ∧ ¬ 64 < ea ∧ eb < 1) ∨ (¬ ea < 1 ∧ ¬ 64 < ea ∧ ¬ eb < 1 ∧ 64 < eb) := by omega
        clear hg
        rcases hg' with g1 | ⟨g1, g2⟩ | ⟨g1, g2, g3⟩ | ⟨g1, g2, g3, g4⟩
        all_goals
          go_enter Try.func8, Try.ntmps8
          go_wp2_with fail
          refine (show Calls _ _ _ _ _ from CS.out).mono ?_
          rintro e w1 ⟨rfl, hf1⟩
          have HF1 := Lib.hid hf1
          clear hf1
          go_wp2_with fail
          refine (show Calls _ _ _ _ _ from CR.out _ HF1.out).mono ?_
          rintro e w2 ⟨v2, rfl, hr2, hf2⟩
          obtain ⟨a2, c2, rfl, _, _, hp2⟩ := hr2.prs
          have HF2 := Lib.hid (HF1.out.trans hf2)
          have C2 := Lib.hid (CO.out w2 _ a2 c2 hp2)
          rw [HN.out]
          clear hr2 hf2 hp2
          go_wp2_with fail
          refine (show Calls _ _ _ _ _ from C2.out).mono ?_
          rintro e w3 ⟨rfl, hf3⟩
          have HF3 := Lib.hid (HF2.out.trans hf3)
          clear hf3 C2
          go_wp2_with fail
          refine (AW.out _).mono ?_
          rintro e w4 ⟨rfl, hf4⟩
          go_wp2_with fail
          go_ret
          exact ⟨rfl, HF3.out.trans hf4⟩
    · have dO : decide (ordP l) = false := decide_eq_false ho
      rw [dO] at CO
      clear ho dO
      go_enter Try.func8, Try.ntmps8
      go_wp2_with fail
      refine (show Calls _ _ _ _ _ from CS.out).mono ?_
      rintro e w1 ⟨rfl, hf1⟩
      have HF1 := Lib.hid hf1
      clear hf1
      go_wp2_with fail
      refine (show Calls _ _ _ _ _ from CR.out _ HF1.out).mono ?_
      rintro e w2 ⟨v2, rfl, hr2, hf2⟩
      obtain ⟨a2, c2, rfl, _, _, hp2⟩ := hr2.prs
      have HF2 := Lib.hid (HF1.out.trans hf2)
      have C2 := Lib.hid (CO.out w2 _ a2 c2 hp2)
      rw [HN.out]
      clear hr2 hf2 hp2
      go_wp2_with fail
      refine (show Calls _ _ _ _ _ from C2.out).mono ?_
      rintro e w3 ⟨rfl, hf3⟩
      have HF3 := Lib.hid (HF2.out.trans hf3)
      clear hf3 C2
      go_wp2_with fail
      refine (AW.out _).mono ?_
      rintro e w4 ⟨rfl, hf4⟩
      go_wp2_with fail
      go_ret
      exact ⟨rfl, HF3.out.trans hf4⟩
  · have dS : decide (Small12 l) = false := decide_eq_false hs
    rw [dS] at CS
    clear dS hs
    go_enter Try.func8, Try.ntmps8
    go_wp2_with fail
    refine (show Calls _ _ _ _ _ from CS.out).mono ?_
    rintro e w1 ⟨rfl, hf1⟩
    have HF1 := Lib.hid hf1
    clear hf1
    go_wp2_with fail
    refine (AW.out _).mono ?_
    rintro e w2 ⟨rfl, hf2⟩
    go_wp2_with fail
    go_ret
    exact ⟨rfl, HF1.out.trans hf2⟩
theorem blockSame_walk {X : World → Nat → (Nat → Prop) → List Pr → Nat → Prop} (H : BlockOK X) (w : World) (a : Option Addr) (cap : Nat) (l : List Pr) (hc : l.length ≤ cap) (hm : cap ≤ maxLen) (hp : Prs w (fun _ => True) a l) (hw : ∀ x ∈ l, PrWf x) (ea : Int) (wa : (Lit.int .i64 ea).wf = true) (eb : Int) (wb : (Lit.int .i64 eb).wf = true) :
    Calls Try.prog 8 #[.slice a l.length cap, .int .i64 ea, .int .i64 eb] w fun e w' => e = .returned (.bool true) ∧ Below w.heap.size w w' :=
  (same12_c H w a _ cap l ea eb rfl hc hm hp).mono fun _ _ h => ⟨h.1, h.2.below (Nat.le_refl _) (fun _ h => absurd h (fun h => h))⟩
end Go.Proofs.Ytiacdakaolghmaa
