/-
  Texts of layer 13 on Fit, one behind the other.
-/
import Derived.Test.YtlobnbbndkhcbaaGreatDoorMg25
import Derived.Test.YtlobnbbndkhcbaaGreatDoorMg23
import Derived.Deep.RegionHeld3
import Derived.Deep.QuietTactic
import Derived.BigQuiet

/- Layer 13: what the laws ask of package table, with Fit. -/
namespace Go.Proofs.YtlobnbbndkhcbaaGreatDoor
set_option linter.unusedVariables false
set_option linter.unusedSimpArgs false
open Go.RowKit

structure TableFit (TB : List Ent → Opt → List UInt8) (NB : List Ent → Opt → Nat) (Tb : World → Prop) (T : World → Nat → (Nat → Prop) → List Ent → Nat → Prop) : Prop extends TableOK TB NB Tb T where
  fit : ∀ (w : World) (S : Nat → Prop) (a : Option Addr) (n cap : Nat) (l : List Ent) (o : Opt) (most : Int), Tb w → l.length = n → n ≤ cap → cap ≤ maxLen → n ≤ 60 → LoE l → Ents w S a l → (∀ x ∈ l, EntWf x) → OptWf o → (Lit.int .i64 most).wf = true →
    Calls Tryz.prog 30 #[.slice a n cap, optV o, .int .i64 most] w (PlainRet (.int .i64 (fitN TB l o most n : Int)) w)
end Go.Proofs.YtlobnbbndkhcbaaGreatDoor

/- Layer 13: the walk of TableFits. -/
namespace Go.Proofs.YtlobnbbndkhcbaaGreatDoor
set_option linter.unusedVariables false
set_option linter.unusedSimpArgs false
open Go.RowKit

theorem fitN_is (TB : List Ent → Opt → List UInt8) (l : List Ent) (o : Opt) (most : Int) : ∀ n, fitN TB l o most n ≤ n ∧ (0 < fitN TB l o most n → buildTE TB (l.take (fitN TB l o most n)) o most = 0) ∧ ∀ k, fitN TB l o most n < k → k ≤ n → buildTE TB (l.take k) o most ≠ 0
  | 0 => ⟨Nat.le_refl _, fun h => absurd h (Nat.lt_irrefl 0), fun k h1 h2 => by omega⟩
  | n + 1 => by
    obtain ⟨h1, h2, h3⟩ := fitN_is TB l o most n
    unfold fitN
    split
    · rename_i h
      exact ⟨Nat.le_refl _, fun _ => h, fun k h4 h5 => by omega⟩
    · rename_i h
      refine ⟨by omega, h2, fun k h4 h5 => ?_⟩
      rcases Nat.lt_or_ge k (n + 1) with h6 | h6
      · exact h3 k h4 (by omega)
      · obtain rfl : k = n + 1 := by omega
        exact h
theorem build_none (TB : List Ent → Opt → List UInt8) (o : Opt) (most : Int) : buildTE TB [] o most ≠ 0 := by
  unfold buildTE
  split
  · decide
  · split
    · decide
    · rename_i h
      exact absurd (Decidable.not_not.1 h).2.1 (by decide)
section
variable {TB : List Ent → Opt → List UInt8} {NB : List Ent → Opt → Nat} {Tb : World → Prop} {T : World → Nat → (Nat → Prop) → List Ent → Nat → Prop}
set_option maxRecDepth 20000 in
set_option maxHeartbeats 3200000 in
theorem fits13_c (H : TableFit TB NB Tb T) (w : World) (ht : Tb w) (S : Nat → Prop) (a : Option Addr) (n cap : Nat) (l : List Ent) (o : Opt) (most : Int) (hn : l.length = n) (hc : n ≤ cap) (hm : cap ≤ maxLen) (hi : Ents w S a l) (hwf : ∀ x ∈ l, EntWf x) (ho : OptWf o) (hmw : (Lit.int .i64 most).wf = true) :
    Calls Tryz.prog 6 #[.slice a n cap, optV o, .int .i64 most] w (PlainRet (.bool true) w) := by
  obtain ⟨W, hW⟩ : ∃ W, w.alloc (.cells #[.int .i64 o.b, .int .i64 o.e, .int .i64 o.n] 24) = W := ⟨_, rfl⟩
  have f0 : Fr No w W := by rw [← hW]; exact (Fr.refl No w).alloc _
  have a0 : At W w.heap.size 24 #[.int .i64 o.b, .int .i64 o.e, .int .i64 o.n] := by rw [← hW]; exact At.new _ _ _
  have hiW := hi.sub (T := fun k => k < w.heap.size) (fun k hk _ => hk)
  have HI := Lib.hid (hiW.keep f0 (fun _ _ h => h))
  have CS := Lib.hid (small13_c a n cap l 25 _ W hn (by omega) HI.out)
  have AW := Lib.hid (fun (w' : World) (f : Fr No w w') => awake13_c H.toTableCore w' (H.tabK ht f))
  have hn' : n ≤ 9223372036854775807 := by unfold maxLen at hm; omega
  have hcc : cap ≤ 9223372036854775807 := by unfold maxLen at hm; omega
  have CC := Lib.hid (fun w' => H.check w' o ho)
  have HF0 := Lib.hid f0
  have HA0 := Lib.hid a0
  have HW := Lib.hid hW
  have HN := Lib.hid hn
  clear hi f0 a0 hW
  by_cases hs : Small13 l 25
  · have hs25 : n ≤ 25 := by have := hs.2; omega
    rw [decide_eq_true hs] at CS
    by_cases hok : OkO o
    · rw [decide_eq_true hok] at CC
      have CF := Lib.hid (fun (w' : World) (f : Fr No W w') => H.fit w' _ a n cap l o most (H.tabK ht (HF0.out.trans f)) hn hc hm (by omega) hs.1 (HI.out.keep f (fun _ _ h => h)) hwf ho hmw)
      obtain ⟨g1, g2, g3⟩ := fitN_is TB l o most n
      have hbn := build_none TB o most
      have CB := Lib.hid (fun (k : Nat) (hk : k ≤ n) (w' : World) (f : Fr No W w') => H.build w' _ a k cap (l.take k) o most (H.tabK ht (HF0.out.trans f)) (by rw [List.length_take]; omega) (by omega) hm (by omega) (hs.1.take k) ((HI.out.keep f (fun _ _ h => h)).take k) (fun x hx => hwf x (List.mem_of_mem_take hx)) ho hmw)
      obtain ⟨f, hf⟩ : ∃ f, fitN TB l o most n = f := ⟨_, rfl⟩
      rw [hf] at g1 g2 g3 CF
      have HE : Hid (∀ k, f ≤ k → k ≤ n → (buildTE TB (l.take k) o most = 0 ↔ k = f ∧ 0 < f)) := Lib.hid fun k hk hkn => by
        constructor
        · intro h
          rcases Nat.lt_or_ge f k with h1 | h1
          · exact absurd h (g3 k h1 hkn)
          · obtain rfl : k = f := by omega
            refine ⟨rfl, ?_⟩
            rcases Nat.eq_zero_or_pos k with h2 | h2
            · subst h2
              rw [List.take_zero] at h
              exact absurd h hbn
            · exact h2
        · rintro ⟨rfl, h⟩
          exact g2 h
      clear g2 g3 hbn hf H hwf ho hmw ht hok hs hiW
      unfold optV at *
      go_enter Tryz.func6, Tryz.ntmps6
      go_wp2_with fail
      rw [HW.out]
      refine (show Calls _ _ _ _ _ from CS.out).mono ?_
      rintro e1 w1 ⟨rfl, f1⟩
      have HA1 := Lib.hid (HA0.out.keep f1 (fun h => h))
      have b0 := HA1.out.cell 0
      have b1 := HA1.out.cell 1
      have b2 := HA1.out.cell 2
      have HF1 := Lib.hid f1
      have CC1 := Lib.hid (CC.out w1)
      clear f1 CS
      go_wp2_with fail
      refine (show Calls _ _ _ _ _ from CC1.out).mono ?_
      rintro e2 w2 ⟨rfl, f2⟩
      have HA2 := Lib.hid (HA1.out.keep f2 (fun h => h))
      have b0 := HA2.out.cell 0
      have b1 := HA2.out.cell 1
      have b2 := HA2.out.cell 2
      have HF2 := Lib.hid (HF1.out.trans f2)
      have CF2 := Lib.hid (CF.out w2 HF2.out)
      clear f2 CC1 CC
      go_wp2_with fail
      refine (show Calls _ _ _ _ _ from CF2.out).mono ?_
      rintro e3 w3 ⟨rfl, f3⟩
      have HA3 := Lib.hid (HA2.out.keep f3 (fun h => h))
      have HF3 := Lib.hid (HF2.out.trans f3)
      have d1 : decide ((f : Int) < 0) = false := decide_eq_false (by omega)
      have d2 : decide ((f : Int) > (n : Int)) = false := decide_eq_false (by omega)
      have d3 : decide (n < f) = false := decide_eq_false (by omega)
      clear f3 CF2 CF
      go_wp2_with fail
      go_loopw [8] (fun i wr => ∃ k : Nat, i = .int .i64 k ∧ f ≤ k ∧ k ≤ n + 1 ∧ At wr w.heap.size 24 #[.int .i64 o.b, .int .i64 o.e, .int .i64 o.n] ∧ Fr No W wr) (fun i _ => n + 1 - (intOf i).toNat)
      case atStart => exact ⟨f, rfl, Nat.le_refl _, by omega, HA3.out, HF3.out⟩
      case round =>
        obtain ⟨k, rfl, hfk, hk, hat, hfr⟩ := hrel
        have HAT := Lib.hid hat
        have HFR := Lib.hid hfr
        clear hat hfr
        by_cases hlt : k ≤ n
        · have S2 := cutE_hi a n cap k (by omega)
          have hk0 : (0 : Int) ≤ (k : Int) := by omega
          have hkn : (k : Int) ≤ (n : Int) := by omega
          have c0 := HAT.out.cell 0
          have c1 := HAT.out.cell 1
          have c2 := HAT.out.cell 2
          have hfx := HFR.out.drew
          have HEK := Lib.hid (HE.out k hfk hlt)
          have CBK := Lib.hid (fun (w' : World) (f : Fr No W w') => CB.out k hlt w' f)
          clear CB HE HFR
          obtain ⟨tb, htb⟩ : ∃ tb, buildTE TB (l.take k) o most = tb := ⟨_, rfl⟩
          have HTB := Lib.hid htb
          rw [htb] at HEK
          clear htb
          go_wp2_with fail
          go_region_held3 (fun w' => w'.cell? ⟨w.heap.size, 0, none⟩ = some (.int .i64 o.b) ∧ w'.cell? ⟨w.heap.size, 1, none⟩ = some (.int .i64 o.e) ∧ w'.cell? ⟨w.heap.size, 2, none⟩ = some (.int .i64 o.n) ∧ Fr No W w') (first | assumption | go_keep)
            (first
              | (go_at_call 11; refine (CBK.out _ hfx).mono ?_; intro e6 w6 hret; obtain ⟨v, rfl, hrow, f6⟩ := hret
                 rw [HTB.out]
                 obtain ⟨va, vc, rfl, _, _, _⟩ := hrow.form
                 obtain ⟨vn, hvn⟩ : ∃ vn, (if buildTE TB (l.take k) o most = 0 then TB (l.take k) o else []).length = vn := ⟨_, rfl⟩
                 rw [hvn]
                 have c0 := f6.cell c0 (fun h => h)
                 have c1 := f6.cell c1 (fun h => h)
                 have c2 := f6.cell c2 (fun h => h)
                 have HAT := Lib.hid (HAT.out.keep ((Fr.refl No _).drew) (fun h => h))
                 have HAT := Lib.hid (HAT.out.keep f6 (fun h => h))
                 have hfx := hfx.trans f6
                 clear f6 hrow hvn))
          have HFX := Lib.hid hfx
          clear hfx
          by_cases hz : k = f ∧ 0 < f
          · obtain ⟨rfl, hz2⟩ := hz
            have htz : tb = 0 := HEK.out.2 ⟨rfl, hz2⟩
            have dz : (tb == 0) = true := by rw [htz]; rfl
            have dk : ((k : Int) == (k : Int)) = true := by simp
            have d5 : decide ((k : Int) > 0) = true := by rw [decide_eq_true_eq]; omega
            clear htz
            go_wp2_with fail
            go_roundw
            case rel => exact ⟨k + 1, by simp, by omega, by omega, HAT.out, HFX.out⟩
            case measure => simp [intOf]; omega
          · have htz : ¬ tb = 0 := fun h => hz (HEK.out.1 h)
            have dz : (tb == 0) = false := by rw [beq_eq_false_iff_ne]; exact htz
            have HZ := Lib.hid hz
            clear htz hz
            by_cases hkf : k = f
            · subst hkf
              have dk : ((k : Int) == (k : Int)) = true := by simp
              have d5 : decide ((k : Int) > 0) = false := by rw [decide_eq_false_iff_not]; have := HZ.out; omega
              have d6 : decide (0 < k) = false := by rw [decide_eq_false_iff_not]; have := HZ.out; omega
              go_wp2_with fail
              go_roundw
              case rel => exact ⟨k + 1, by simp, by omega, by omega, HAT.out, HFX.out⟩
              case measure => simp [intOf]; omega
            · have dk : ((k : Int) == (f : Int)) = false := by rw [beq_eq_false_iff_ne]; omega
              go_wp2_with fail
              go_roundw
              case rel => exact ⟨k + 1, by simp, by omega, by omega, HAT.out, HFX.out⟩
              case measure => simp [intOf]; omega
        · have HAW := Lib.hid (AW.out wr (HF0.out.trans HFR.out))
          go_wp2_with fail
          refine (show Calls _ _ _ _ _ from HAW.out).mono ?_
          rintro e4 w4 ⟨rfl, f4⟩
          go_wp2_with fail
          go_ret
          exact ⟨rfl, (HF0.out.trans HFR.out).trans f4⟩
    · rw [decide_eq_false hok] at CC
      clear H hwf ho hmw ht hok hs hiW
      unfold optV at *
      go_enter Tryz.func6, Tryz.ntmps6
      go_wp2_with fail
      rw [HW.out]
      refine (show Calls _ _ _ _ _ from CS.out).mono ?_
      rintro e1 w1 ⟨rfl, f1⟩
      have HA1 := Lib.hid (HA0.out.keep f1 (fun h => h))
      have b0 := HA1.out.cell 0
      have b1 := HA1.out.cell 1
      have b2 := HA1.out.cell 2
      have HF1 := Lib.hid (HF0.out.trans f1)
      have CC1 := Lib.hid (CC.out w1)
      clear f1 CS
      go_wp2_with fail
      refine (show Calls _ _ _ _ _ from CC1.out).mono ?_
      rintro e2 w2 ⟨rfl, f2⟩
      have HF2 := Lib.hid (HF1.out.trans f2)
      have HAW := Lib.hid (AW.out w2 HF2.out)
      clear f2
      go_wp2_with fail
      refine (show Calls _ _ _ _ _ from HAW.out).mono ?_
      rintro e3 w3 ⟨rfl, f3⟩
      go_wp2_with fail
      go_ret
      exact ⟨rfl, HF2.out.trans f3⟩
  · rw [decide_eq_false hs] at CS
    clear H hwf ho hmw ht hs hiW
    unfold optV at *
    go_enter Tryz.func6, Tryz.ntmps6
    go_wp2_with fail
    rw [HW.out]
    refine (show Calls _ _ _ _ _ from CS.out).mono ?_
    rintro e1 w1 ⟨rfl, f1⟩
    have HF1 := Lib.hid (HF0.out.trans f1)
    have HAW := Lib.hid (AW.out w1 HF1.out)
    clear f1
    go_wp2_with fail
    refine (show Calls _ _ _ _ _ from HAW.out).mono ?_
    rintro e3 w3 ⟨rfl, f3⟩
    go_wp2_with fail
    go_ret
    exact ⟨rfl, HF1.out.trans f3⟩
end
end Go.Proofs.YtlobnbbndkhcbaaGreatDoor

/- Layer 13: what a frame asks of a walk. -/
namespace Go.Proofs.YtlobnbbndkhcbaaGreatDoor
set_option linter.unusedVariables false
set_option linter.unusedSimpArgs false
open Go.RowKit

theorem plain_post {w : World} {e : Ending} {w' : World} (h : PlainRet (.bool true) w e w') : e = .returned (.bool true) ∧ Below w.heap.size w w' := ⟨h.1, h.2.below (Nat.le_refl _) (fun _ h => h.elim)⟩
end Go.Proofs.YtlobnbbndkhcbaaGreatDoor

/- Layer 13: the walk of TableFits, as its frame takes it. -/
namespace Go.Proofs.YtlobnbbndkhcbaaGreatDoor
set_option linter.unusedVariables false
set_option linter.unusedSimpArgs false
open Go.RowKit

section
variable {TB : List Ent → Opt → List UInt8} {NB : List Ent → Opt → Nat} {Tb : World → Prop} {T : World → Nat → (Nat → Prop) → List Ent → Nat → Prop}
theorem tableFits_walk (H : TableFit TB NB Tb T) (W : World) (ht : Tb W) (a : Option Addr) (cap : Nat) (l : List Ent) (hc : l.length ≤ cap) (hm : cap ≤ maxLen) (hi : Ents W (fun _ => True) a l) (hwf : ∀ x ∈ l, EntWf x) (o : Opt) (ho : OptWf o) (most : Int) (hmw : (Lit.int .i64 most).wf = true) :
    Calls Tryz.prog 6 #[.slice a l.length cap, optV o, .int .i64 most] W fun e W' => e = .returned (.bool true) ∧ Below W.heap.size W W' :=
  (fits13_c H W ht _ a _ cap l o most rfl hc hm hi hwf ho hmw).mono fun _ _ h => plain_post h
end
end Go.Proofs.YtlobnbbndkhcbaaGreatDoor
