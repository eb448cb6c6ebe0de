/-
  Layer 13: the walk of TableOpens.
-/
import Derived.Test.YtlobnbbndkhcbaaGreatDoorMxTbH
import Derived.Test.YtlobnbbndkhcbaaGreatDoorMg25
import Derived.Test.YtlobnbbndkhcbaaGreatDoorMxWireCp
namespace Go.Proofs.YtlobnbbndkhcbaaGreatDoor
set_option linter.unusedVariables false
open Go.RowKit

section
variable {TB : List Ent → Opt → List UInt8} {NB : List Ent → Opt → Nat} {Tb : World → Prop} {T : World → Nat → (Nat → Prop) → List Ent → Nat → Prop}
set_option maxRecDepth 20000 in
set_option maxHeartbeats 6400000 in
theorem opens13_c (H : TableOK TB NB Tb T) (w : World) (ht : Tb w) (a : Option Addr) (n cap : Nat) (bs : List UInt8) (hn : bs.length = n) (hc : n ≤ cap) (hm : cap ≤ maxLen) (hr : Rd w a bs) :
    Calls Tryz.prog 5 #[.slice a n cap] w (PlainRet (.bool true) w) := by
  have hn' : n ≤ 9223372036854775807 := by unfold maxLen at hm; omega
  have AW := Lib.hid (fun (w' : World) (f : Fr No w w') => awake13_c H.toTableCore w' (H.tabK ht f))
  have HN := Lib.hid hn
  by_cases hbig : (1500 : Int) < (n : Int)
  · have HAW := Lib.hid (AW.out w (Fr.refl _ _))
    clear hr H ht AW
    go_enter Tryz.func5, Tryz.ntmps5
    go_wp2_with fail
    refine (show Calls _ _ _ _ _ from HAW.out).mono ?_
    rintro e1 w1 ⟨rfl, f1⟩
    go_wp2_with fail
    go_ret
    exact ⟨rfl, f1⟩
  · have HC := Lib.hid (copyRef_c a n cap bs w hn (by omega) hr)
    have HH := Lib.hid H
    have HT0 := Lib.hid ht
    clear hr H ht
    go_enter Tryz.func5, Tryz.ntmps5
    go_wp2_with fail
    refine (show Calls _ _ _ _ _ from HC.out).mono ?_
    rintro e1 w1 ⟨v1, rfl, hrow, f1⟩
    obtain ⟨va, vc, rfl, hvc, hvm, hin⟩ := hrow.form
    rw [HN.out] at hvc ⊢
    have HF1 := Lib.hid f1
    have CO := Lib.hid (HH.out.open_ w1 va n vc bs (HH.out.tabK HT0.out f1) HN.out hvc hvm (by omega) hin.rd)
    clear hrow hvc hvm hin f1 HC
    go_wp2_with fail
    refine (show Calls _ _ _ _ _ from CO.out).mono ?_
    rintro e2 w2 (⟨t, F, l, c, rfl, hT, hF, hRL, hwf, _, _, h24, _, f2⟩ | ⟨_, rfl, f2⟩)
    · have HF2 := Lib.hid (HF1.out.trans f2)
      have HT2 := Lib.hid hT
      have HWF := Lib.hid hwf
      have HRL := Lib.hid hRL
      have h24' : (24 : Int) ≤ (n : Int) := by have := HN.out; omega
      have h1 : 1 ≤ l.length := hRL.2.1
      have h65 : l.length ≤ 65536 := hRL.2.2
      obtain ⟨m, hml⟩ : ∃ m, l.length = m := ⟨_, rfl⟩
      have HM := Lib.hid hml
      have CL := Lib.hid (HH.out.len w2 t F l c HT2.out)
      rw [hml] at CL h1 h65
      clear hT hF hRL hwf f2 CO h24 hml
      go_wp2_with fail
      refine (show Calls _ _ _ _ _ from CL.out).mono ?_
      rintro e3 w3 ⟨rfl, f3⟩
      have HF3 := Lib.hid (HF2.out.trans f3)
      have HT3 := Lib.hid (HH.out.keep HT2.out f3 (fun _ _ h => h))
      clear f3 CL HT2
      by_cases h200 : (200 : Int) < (m : Int)
      · have HAW := Lib.hid (AW.out w3 HF3.out)
        go_wp2_with fail
        refine (show Calls _ _ _ _ _ from HAW.out).mono ?_
        rintro e4 w4 ⟨rfl, f4⟩
        go_wp2_with fail
        go_ret
        exact ⟨rfl, HF3.out.trans f4⟩
      · have d200 : decide ((200 : Int) < (m : Int)) = false := decide_eq_false h200
        have d24 : decide ((n : Int) < 24) = false := decide_eq_false (by omega)
        have d24' : decide (n < 24) = false := decide_eq_false (by omega)
        have CE := Lib.hid (HH.out.entries w3 t F l c HT3.out)
        go_wp2_with fail
        refine (show Calls _ _ _ _ _ from CE.out).mono ?_
        rintro e4 w4 ⟨v4, rfl, hr4, f4⟩
        obtain ⟨ea, ec, rfl, k1, k2, hents⟩ := hr4.ents
        rw [HM.out]
        rw [HM.out] at k1
        have HF4 := Lib.hid (HF3.out.trans f4)
        have HT4 := Lib.hid (HH.out.keep HT3.out f4 (fun _ _ h => h))
        have hE4 := hents.sub (T := fun k => k < w4.heap.size) (fun k hk _ => hk)
        have HE4 := Lib.hid hE4
        have HLN := Lib.hid (fun (w' : World) (f : Fr No w4 w') => HH.out.len w' t F l c (HH.out.keep HT4.out f (fun _ _ h => h)))
        have HSM := Lib.hid (fun (w' : World) (f : Fr No w4 w') => HH.out.small w' t F l c (HH.out.keep HT4.out f (fun _ _ h => h)))
        have HLG := Lib.hid (fun (w' : World) (f : Fr No w4 w') => HH.out.large w' t F l c (HH.out.keep HT4.out f (fun _ _ h => h)))
        have HRF := Lib.hid (fun (w' : World) (f : Fr No w4 w') => ref13_c ea m ec l _ w' HM.out (by omega) (HE4.out.keep f (fun _ _ h => h)))
        have HAW := Lib.hid (fun (w' : World) (f : Fr No w4 w') => AW.out w' (HF4.out.trans f))
        obtain ⟨b, o, _, rfl, hxs⟩ := hE4 (by have := HM.out; omega)
        obtain ⟨p, hpm⟩ : ∃ p, p + 1 = m := ⟨m - 1, by omega⟩
        have hx := hxs 0 (by have := HM.out; omega)
        have hy := hxs p (by have := HM.out; omega)
        rw [HM.out] at HLN HLG
        rw [show m - 1 = p by omega] at HLG
        obtain ⟨x, hx0⟩ : ∃ x, l.getD 0 ent0 = x := ⟨_, rfl⟩
        obtain ⟨y, hy0⟩ : ∃ y, l.getD p ent0 = y := ⟨_, rfl⟩
        rw [hx0] at hx HSM
        rw [hy0] at hy HLG
        rw [show o + 0 * 4 = o by omega] at hx
        unfold keyV at HSM HLG
        obtain ⟨c0, c1, c2, c3⟩ := hx
        obtain ⟨e0, e1, e2, e3⟩ := hy
        have hm1 : (m : Int) - 1 = (p : Int) := by omega
        have hm0 : (0 : Int) ≤ (p : Int) := by omega
        have hml : (p : Int) < (m : Int) := by omega
        have hmz : (0 : Int) < (m : Int) := by omega
        have hmy : 0 < m := by omega
        have hmx : ((m : Int) ≤ 0) = False := by simp; omega
        have hwr : IntKind.i64.wrap ((m : Int) - 1) = (p : Int) := by rw [hm1]; exact IntWalk.i64_in _ (by omega)
        have hwm : IntKind.i64.wrap (p : Int) = (p : Int) := IntWalk.i64_in _ (by omega)
        have d0 : (x.u.toList == x.u.toList) = true := beq_self_eq_true _
        have d1 : (x.q == x.q) = true := beq_self_eq_true _
        have d2 : (x.k == x.k) = true := beq_self_eq_true _
        have d3 : (y.u.toList == y.u.toList) = true := beq_self_eq_true _
        have d4 : (y.q == y.q) = true := beq_self_eq_true _
        have d5 : (y.k == y.k) = true := beq_self_eq_true _
        have d6 : ((m : Int) == (m : Int)) = true := beq_self_eq_true _
        have hfx := (Fr.refl No w4).drew
        clear hr4 f4 CE hents hxs hx0 hy0 hpm hE4 AW
        go_wp2_with fail
        go_region_held3 (fun w' => w'.cell? ⟨b, o, none⟩ = some (.string x.u) ∧ w'.cell? ⟨b, o + 1, none⟩ = some (.int .i64 x.q) ∧ w'.cell? ⟨b, o + 2, none⟩ = some (.int .i64 x.k) ∧ w'.cell? ⟨b, o + p * 4, none⟩ = some (.string y.u) ∧ w'.cell? ⟨b, o + p * 4 + 1, none⟩ = some (.int .i64 y.q) ∧ w'.cell? ⟨b, o + p * 4 + 2, none⟩ = some (.int .i64 y.k) ∧ Fr No w4 w') (first | assumption | go_keep)
          (first
            | (go_at_call 12; refine (HRF.out _ hfx).mono ?_; intro e6 w6 hret
               obtain ⟨v6, rfl, hr6, hf6⟩ := hret
               obtain ⟨ra, rc, rfl, _, _, hE6⟩ := hr6.ents
               rw [HM.out]
               have c0 := hf6.cell (p := ⟨b, o, none⟩) c0 (fun h => h)
               have c1 := hf6.cell (p := ⟨b, o + 1, none⟩) c1 (fun h => h)
               have c2 := hf6.cell (p := ⟨b, o + 2, none⟩) c2 (fun h => h)
               have e0 := hf6.cell (p := ⟨b, o + p * 4, none⟩) e0 (fun h => h)
               have e1 := hf6.cell (p := ⟨b, o + p * 4 + 1, none⟩) e1 (fun h => h)
               have e2 := hf6.cell (p := ⟨b, o + p * 4 + 2, none⟩) e2 (fun h => h)
               have hfx := hfx.trans hf6
               have HR6 := Lib.hid (fun w' f => refRight13_c ra rc m l w' _ HM.out HRL.out (hE6.keep (T := No) (w' := w') f (fun _ _ h => h)) HWF.out)
               clear hf6 hr6 hE6)
            | (go_at_call 15; (with_reducible refine (HR6.out _ (Fr.refl _ _)).mono ?_)
               intro e6 w6 hret; obtain ⟨rfl, hf6⟩ := hret
               have c0 := hf6.cell (p := ⟨b, o, none⟩) c0 (fun h => h)
               have c1 := hf6.cell (p := ⟨b, o + 1, none⟩) c1 (fun h => h)
               have c2 := hf6.cell (p := ⟨b, o + 2, none⟩) c2 (fun h => h)
               have e0 := hf6.cell (p := ⟨b, o + p * 4, none⟩) e0 (fun h => h)
               have e1 := hf6.cell (p := ⟨b, o + p * 4 + 1, none⟩) e1 (fun h => h)
               have e2 := hf6.cell (p := ⟨b, o + p * 4 + 2, none⟩) e2 (fun h => h)
               have hfx := hfx.trans hf6
               clear hf6)
            | (first
                 | (go_at_call 21; refine (HLN.out _ hfx).mono ?_)
                 | (go_at_call 24; refine (HSM.out _ hfx).mono ?_)
                 | (go_at_call 25; refine (HLG.out _ hfx).mono ?_)
                 | (go_at_call 10; refine (HAW.out _ hfx).mono ?_)
               intro e6 w6 hret; obtain ⟨rfl, hf6⟩ := hret
               have c0 := hf6.cell (p := ⟨b, o, none⟩) c0 (fun h => h)
               have c1 := hf6.cell (p := ⟨b, o + 1, none⟩) c1 (fun h => h)
               have c2 := hf6.cell (p := ⟨b, o + 2, none⟩) c2 (fun h => h)
               have e0 := hf6.cell (p := ⟨b, o + p * 4, none⟩) e0 (fun h => h)
               have e1 := hf6.cell (p := ⟨b, o + p * 4 + 1, none⟩) e1 (fun h => h)
               have e2 := hf6.cell (p := ⟨b, o + p * 4 + 2, none⟩) e2 (fun h => h)
               have hfx := hfx.trans hf6
               clear hf6))
        have HFX := Lib.hid hfx
        clear hfx
        go_wp2_with fail
        go_ret
        exact ⟨rfl, HF4.out.trans HFX.out⟩
    · have HF2 := Lib.hid (HF1.out.trans f2)
      have HAW := Lib.hid (AW.out w2 HF2.out)
      clear f2 CO
      go_wp2_with fail
      refine (show Calls _ _ _ _ _ from HAW.out).mono ?_
      rintro e3 w3 ⟨rfl, f3⟩
      go_wp2_with fail
      go_ret
      exact ⟨rfl, HF2.out.trans f3⟩
theorem tableOpens_walk (H : TableOK TB NB Tb T) (W : World) (ht : Tb W) (a : Option Addr) (len cap : Nat) (l : List UInt8) (hl : l.length = len) (hc : len ≤ cap) (hm : cap ≤ maxLen) (hr : Rd W a l) :
    Calls Tryz.prog 5 #[.slice a len cap] W fun e W' => e = .returned (.bool true) ∧ Below W.heap.size W W' :=
  (opens13_c H W ht a len cap l hl hc hm hr).mono fun _ _ h => ⟨h.1, h.2.below (Nat.le_refl _) (fun _ h => h.elim)⟩
end
end Go.Proofs.YtlobnbbndkhcbaaGreatDoor
