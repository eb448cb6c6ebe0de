/-
  Layer 13: the walk of TableSmalls.
-/
import Derived.Test.YtlobnbbndkhcbaaGreatDoorMg25
import Derived.Test.YtlobnbbndkhcbaaGreatDoorMg23
import Derived.Test.YtlobnbbndkhcbaaGreatDoorMg15
namespace Go.Proofs.YtlobnbbndkhcbaaGreatDoor
set_option linter.unusedVariables false
open Go.RowKit

theorem fieldK13 (u : ByteArray) (q k : Int) (w : World) : (Instr.field 46 (.agg #[.string u, .int .i64 q, .int .i64 k]) 0).run Tryz.prog w = .ok (.string u) w := by kernel_rfl
section
variable {TB : List Ent → Opt → List UInt8} {NB : List Ent → Opt → Nat} {Tb : World → Prop} {T : World → Nat → (Nat → Prop) → List Ent → Nat → Prop}
set_option maxRecDepth 20000 in
set_option maxHeartbeats 6400000 in
theorem smalls13_c (H : TableOK TB NB Tb T) (w : World) (ht : Tb w) (S : Nat → Prop) (a : Option Addr) (n cap : Nat) (l : List Ent) (o : Opt) (u : ByteArray) (hn : l.length = n) (hc : n ≤ cap) (hm : cap ≤ maxLen) (hi : Ents w S a l) (hwf : ∀ x ∈ l, EntWf x) (ho : OptWf o) (hu : u.size ≤ maxLen) :
    Calls Tryz.prog 8 #[.slice a n cap, optV o, .string u] w (PlainRet (.bool true) w) := by
  obtain ⟨W, hW⟩ : ∃ W, w.alloc (.cells #[.int .i64 o.b, .int .i64 o.e, .int .i64 o.n] 24) = W := ⟨_, rfl⟩
  have f0 : Fr No w W := by rw [← hW]; exact (Fr.refl No w).alloc _
  have a0 : At W w.heap.size 24 #[.int .i64 o.b, .int .i64 o.e, .int .i64 o.n] := by rw [← hW]; exact At.new _ _ _
  have hiW := hi.sub (T := fun k => k < w.heap.size) (fun k hk _ => hk)
  have HI := Lib.hid (hiW.keep f0 (fun _ _ h => h))
  have CS := Lib.hid (small13_c a n cap l 60 _ W hn (by omega) HI.out)
  have AW := Lib.hid (fun (w' : World) (f : Fr No W w') => awake13_c H.toTableCore w' (H.tabK ht (f0.trans f)))
  have hn' : n ≤ 9223372036854775807 := by unfold maxLen at hm; omega
  have hcc : cap ≤ 9223372036854775807 := by unfold maxLen at hm; omega
  have hus : u.size ≤ 9223372036854775807 := by unfold maxLen at hu; omega
  have HUM := Lib.hid hu
  have HF0 := Lib.hid f0
  have HA0 := Lib.hid a0
  have HW := Lib.hid hW
  have HN := Lib.hid hn
  clear hi f0 a0 hW hiW
  by_cases hs : Small13 l 60
  · have hs60 : n ≤ 60 := by have := hs.2; omega
    rw [decide_eq_true hs] at CS
    by_cases h2 : (200 : Int) < (u.size : Int)
    · unfold optV
      go_enter Tryz.func8, Tryz.ntmps8
      go_wp2_with fail
      rw [HW.out]
      refine (show Calls _ _ _ _ _ from CS.out).mono ?_
      rintro e1 w1 ⟨rfl, f1⟩
      have HF1 := Lib.hid (HF0.out.trans f1)
      have HAW := Lib.hid (AW.out w1 f1)
      clear f1 CS AW
      go_wp2_with fail
      refine (show Calls _ _ _ _ _ from HAW.out).mono ?_
      rintro e3 w3 ⟨rfl, f3⟩
      go_wp2_with fail
      go_ret
      exact ⟨rfl, HF1.out.trans f3⟩
    · have CB := Lib.hid (fun (w' : World) (f : Fr No W w') => H.build w' _ a n cap l o 1048576 (H.tabK ht (HF0.out.trans f)) hn hc hm (by omega) hs.1 (HI.out.keep f (fun _ _ h => h)) hwf ho (by decide))
      have HBZ := Lib.hid (@buildTE_zero TB l o 1048576)
      obtain ⟨er, her⟩ : ∃ er, buildTE TB l o 1048576 = er := ⟨_, rfl⟩
      have HER := Lib.hid her
      clear her
      have HLO := Lib.hid hs.1
      have HH := Lib.hid H
      have HT0 := Lib.hid ht
      have HWF := Lib.hid hwf
      clear hs H ht hwf
      unfold optV at *
      go_enter Tryz.func8, Tryz.ntmps8
      go_wp2_with fail
      rw [HW.out]
      refine (show Calls _ _ _ _ _ from CS.out).mono ?_
      rintro e1 w1 ⟨rfl, f1⟩
      have HA1 := Lib.hid (HA0.out.keep f1 (fun h => h))
      have b0 := HA1.out.cell 0
      have b1 := HA1.out.cell 1
      have b2 := HA1.out.cell 2
      have HF1 := Lib.hid f1
      have CB1 := Lib.hid (CB.out w1 f1)
      clear f1 CS CB
      go_wp2_with fail
      refine (show Calls _ _ _ _ _ from CB1.out).mono ?_
      rintro e2 w2 ⟨v, rfl, hrow, f2⟩
      obtain ⟨va, vc, rfl, hvc, hvm, hin⟩ := hrow.form
      rw [HER.out] at hin ⊢
      rw [HER.out] at hvc
      have HF2 := Lib.hid (HF1.out.trans f2)
      clear f2 hrow CB1 b0 b1 b2
      by_cases hez : er = 0
      · subst hez
        obtain ⟨k1, k2, k3⟩ := HBZ.out HER.out
        rw [if_pos rfl] at hin hvc ⊢
        obtain ⟨bn, hbn⟩ : ∃ bn, (TB l o).length = bn := ⟨_, rfl⟩
        have CO := Lib.hid (open13 HH.out.toTableCore w2 va bn vc l o (HH.out.tabK HT0.out (HF0.out.trans HF2.out)) hbn (by rw [← hbn]; exact hvc) hvm HLO.out (by have := HN.out; omega) hin.rd k1 k2)
        have HRL := Lib.hid k2
        rw [hbn]
        clear hbn hin hvc hvm k1 k2 k3 HBZ HER
        go_wp2_with fail
        refine (show Calls _ _ _ _ _ from CO.out).mono ?_
        rintro e3 w3 ⟨t, F, rfl, hT, hnb1, hnb2, hF, f3⟩
        have HF3 := Lib.hid (HF2.out.trans f3)
        have HT3 := Lib.hid hT
        obtain ⟨nb, hnb⟩ : ∃ nb, NB l o = nb := ⟨_, rfl⟩
        rw [hnb] at HT3 hnb1 hnb2
        rw [HN.out] at hnb2
        have CR := Lib.hid (HH.out.entries w3 t F l nb HT3.out)
        clear hT hF f3 CO hnb
        go_wp2_with fail
        refine (show Calls _ _ _ _ _ from CR.out).mono ?_
        rintro e4 w4 ⟨v4, rfl, hr4, f4⟩
        obtain ⟨ea, ec, rfl, k1, k2, hents⟩ := hr4.ents
        rw [HN.out]
        rw [HN.out] at k1
        have HF4 := Lib.hid (HF3.out.trans f4)
        have HT4 := Lib.hid (HH.out.keep HT3.out f4 (fun _ _ h => h))
        have HE4 := Lib.hid (hents.sub (T := fun k => k < w4.heap.size) (fun k hk _ => hk))
        have HSM := Lib.hid (fun (w' : World) (f : Fr No w4 w') => HH.out.small w' t F l nb (HH.out.keep HT4.out f (fun _ _ h => h)))
        have HLG := Lib.hid (fun (w' : World) (f : Fr No w4 w') => HH.out.large w' t F l nb (HH.out.keep HT4.out f (fun _ _ h => h)))
        have HFI := Lib.hid (rightL_first HRL.out)
        have HLA := Lib.hid (rightL_last HRL.out)
        have HGB := Lib.hid (@got_between l HRL.out u 1099511627776)
        have HWFS := Lib.hid (HWF.out _ (getD_memE l 0 (by have := HRL.out.2.1; omega)))
        have HWFL := Lib.hid (HWF.out _ (getD_memE l (l.length - 1) (by have := HRL.out.2.1; omega)))
        obtain ⟨sm, hsm⟩ : ∃ sm, l.getD 0 ent0 = sm := ⟨_, rfl⟩
        obtain ⟨lg, hlg⟩ : ∃ lg, l.getD (l.length - 1) ent0 = lg := ⟨_, rfl⟩
        rw [hsm] at HSM HFI HGB HWFS
        rw [hlg] at HLG HLA HGB HWFL
        unfold keyV at HSM HLG
        clear hr4 f4 CR HT3 hents hsm hlg
        have HCM := Lib.hid HH.out.cmp
        go_wp2_with fail
        go_loopw [48] (fun i wr => ∃ k : Nat, i = .int .i64 k ∧ k ≤ n ∧ Fr No w4 wr) (fun i _ => n - (intOf i).toNat)
        case atStart => exact ⟨0, rfl, Nat.zero_le _, Fr.refl _ _⟩
        case round =>
          obtain ⟨k, rfl, hk, hfr⟩ := hrel
          have HF := Lib.hid hfr
          by_cases hlt : k < n
          · have hkl : k < l.length := by rw [HN.out]; exact hlt
            obtain ⟨b, off, hbl, rfl, hx⟩ := HE4.out (by omega)
            have hx := (hx k hkl).keep hfr (fun h => h)
            have HFK := Lib.hid (HFI.out k hkl)
            have HLK := Lib.hid (HLA.out k hkl)
            obtain ⟨x, hy⟩ : ∃ x, l.getD k ent0 = x := ⟨_, rfl⟩
            rw [hy] at hx HFK HLK
            clear hy
            obtain ⟨x0, x1, x2, x3⟩ := hx
            obtain ⟨w5, hw5⟩ : ∃ w5, wr.alloc (.cells #[.string x.u, .int .i64 x.q, .int .i64 x.k, .string x.val] 49) = w5 := ⟨_, rfl⟩
            have f5 : Fr No wr w5 := by rw [← hw5]; exact (Fr.refl _ _).alloc _
            have a5 : At w5 wr.heap.size 49 #[.string x.u, .int .i64 x.q, .int .i64 x.k, .string x.val] := by rw [← hw5]; exact At.new _ _ _
            obtain ⟨g, hg⟩ : ∃ g, wr.heap.size = g := ⟨_, rfl⟩
            rw [hg] at a5
            obtain ⟨q0, q1, q2⟩ : w5.cell? ⟨g, 0, none⟩ = some (.string x.u) ∧ w5.cell? ⟨g, 0 + 1, none⟩ = some (.int .i64 x.q) ∧ w5.cell? ⟨g, 0 + 2, none⟩ = some (.int .i64 x.k) := ⟨a5.cell 0, a5.cell 1, a5.cell 2⟩
            have hfx := (hfr.trans f5).drew
            have HW5 := Lib.hid hw5
            have HG5 := Lib.hid hg
            have hc0 : cmpK x.u.data.toList x.q x.k sm.u.data.toList sm.q sm.k = cmpE x sm := rfl
            have hc1 : cmpK x.u.data.toList x.q x.k lg.u.data.toList lg.q lg.k = cmpE x lg := rfl
            obtain ⟨c0, hc0e⟩ : ∃ c0, cmpE x sm = c0 := ⟨_, rfl⟩
            obtain ⟨c1, hc1e⟩ : ∃ c1, cmpE x lg = c1 := ⟨_, rfl⟩
            rw [hc0e] at hc0 HFK
            rw [hc1e] at hc1 HLK
            have HC0 := Lib.hid hc0
            have HC1 := Lib.hid hc1
            have d0 : decide (c0 < 0) = false := decide_eq_false (by have := HFK.out; omega)
            have d1 : decide (c1 > 0) = false := decide_eq_false (by have := HLK.out; omega)
            clear hfr f5 a5 hw5 hg hc0 hc1 hc0e hc1e
            go_wp2_with fail
            rw [HW5.out, HG5.out]
            go_region_held3 (fun w' => w'.cell? ⟨g, 0, none⟩ = some (.string x.u) ∧ w'.cell? ⟨g, 0 + 1, none⟩ = some (.int .i64 x.q) ∧ w'.cell? ⟨g, 0 + 2, none⟩ = some (.int .i64 x.k) ∧ Fr No w4 w') (first | assumption | go_keep)
              (first
                | (go_at_call 24; refine (HSM.out _ hfx).mono ?_; intro e6 w6 hret; obtain ⟨rfl, hf6⟩ := hret
                   have q0 := hf6.cell (p := ⟨g, 0, none⟩) q0 (fun h => h)
                   have q1 := hf6.cell (p := ⟨g, 0 + 1, none⟩) q1 (fun h => h)
                   have q2 := hf6.cell (p := ⟨g, 0 + 2, none⟩) q2 (fun h => h)
                   have hfx := hfx.trans hf6
                   clear hf6)
                | (go_at_call 25; refine (HLG.out _ hfx).mono ?_; intro e6 w6 hret; obtain ⟨rfl, hf6⟩ := hret
                   have q0 := hf6.cell (p := ⟨g, 0, none⟩) q0 (fun h => h)
                   have q1 := hf6.cell (p := ⟨g, 0 + 1, none⟩) q1 (fun h => h)
                   have q2 := hf6.cell (p := ⟨g, 0 + 2, none⟩) q2 (fun h => h)
                   have hfx := hfx.trans hf6
                   clear hf6)
                | (go_at_call 32; refine (HCM.out _ _ _ _ _ _ _).mono ?_; intro e6 w6 hret; obtain ⟨rfl, hf6⟩ := hret
                   first | rw [HC0.out] | rw [HC1.out]
                   have q0 := hf6.cell (p := ⟨g, 0, none⟩) q0 (fun h => h)
                   have q1 := hf6.cell (p := ⟨g, 0 + 1, none⟩) q1 (fun h => h)
                   have q2 := hf6.cell (p := ⟨g, 0 + 2, none⟩) q2 (fun h => h)
                   have hfx := hfx.trans hf6
                   clear hf6))
            have HFX := Lib.hid hfx
            clear hfx
            go_wp2_with fail
            go_roundw
            case rel => exact ⟨k + 1, by simp, by omega, HFX.out⟩
            case measure => simp [intOf]; omega
          · obtain ⟨W5, rfl⟩ : ∃ W5, W5 = wr := ⟨_, rfl⟩
            have CG := Lib.hid (HH.out.get W5 t F l nb u 1099511627776 (HH.out.keep HT4.out hfr (fun _ _ h => h)) (by omega) (by decide))
            obtain ⟨G, hG⟩ : ∃ G, getE l u 1099511627776 = G := ⟨_, rfl⟩
            rw [hG] at CG HGB
            obtain ⟨y, hy⟩ : ∃ y, gotE l u 1099511627776 = y := ⟨_, rfl⟩
            rw [hy] at CG
            unfold entV at CG
            have HLN := Lib.hid (fun (w' : World) (f : Fr No w4 w') => HH.out.len w' t F l nb (HH.out.keep HT4.out f (fun _ _ h => h)))
            have HBK := Lib.hid (fun (w' : World) (f : Fr No w4 w') => HH.out.blocks w' t F l nb (HH.out.keep HT4.out f (fun _ _ h => h)))
            rw [HN.out] at HLN
            have HO0 := Lib.hid (fun (w' : World) => orderE_c u sm.u HUM.out HWFS.out.1 w')
            have HO1 := Lib.hid (fun (w' : World) => orderE_c u lg.u HUM.out HWFL.out.1 w')
            have HG3 : Hid (0 ≤ G → ¬ Lib.compareBytes u.data.toList sm.u.data.toList < 0 ∧ ¬ Lib.compareBytes u.data.toList lg.u.data.toList > 0) := Lib.hid fun h => by
              have g1 : 0 ≤ Lib.compareBytes u.data.toList sm.u.data.toList := (HGB.out h).1
              have g2 : Lib.compareBytes u.data.toList lg.u.data.toList ≤ 0 := (HGB.out h).2
              omega
            obtain ⟨r0, hr0⟩ : ∃ r0, Lib.compareBytes u.data.toList sm.u.data.toList = r0 := ⟨_, rfl⟩
            obtain ⟨r1, hr1⟩ : ∃ r1, Lib.compareBytes u.data.toList lg.u.data.toList = r1 := ⟨_, rfl⟩
            rw [hr0] at HO0 HG3
            rw [hr1] at HO1 HG3
            have hbl : decide ((nb : Int) ≤ (n : Int)) = true := by rw [decide_eq_true_eq]; omega
            have hbg : decide ((nb : Int) ≥ 1) = true := by rw [decide_eq_true_eq]; omega
            have HAW := Lib.hid (fun (w' : World) (f : Fr No w4 w') => AW.out w' (HF4.out.trans f))
            have HWW := Lib.hid (HF0.out.trans HF4.out)
            obtain ⟨ok, hok⟩ : ∃ ok, decide (0 ≤ G) = ok := ⟨_, rfl⟩
            rw [hok] at CG
            have HOK := Lib.hid hok
            have HFR := Lib.hid hfr
            have hni1 : (1 : Int) ≤ (nb : Int) := by omega
            have hni2 : (nb : Int) ≤ (n : Int) := by omega
            clear hr0 hr1 hG hy hok hfr HGB HFI HLA HCM HE4 AW
            go_wp2_with fail
            refine (show Calls _ _ _ _ _ from CG.out).mono ?_
            rintro e6 w6 ⟨rfl, f6⟩
            have HF6 := Lib.hid ((HFR.out.trans f6).alloc (.cells #[.string y.u, .int .i64 y.q, .int .i64 y.k, .string y.val] 49))
            obtain ⟨w7, hw7⟩ : ∃ w7, w6.alloc (.cells #[.string y.u, .int .i64 y.q, .int .i64 y.k, .string y.val] 49) = w7 := ⟨_, rfl⟩
            rw [hw7] at HF6
            have HW7 := Lib.hid hw7
            have C7 := Lib.hid (HSM.out w7 HF6.out)
            have S0 := fieldK13 sm.u sm.q sm.k
            have S1 := fieldK13 lg.u lg.q lg.k
            clear hw7 f6 CG
            go_wp2_with fail
            rw [HW7.out]
            refine (show Calls _ _ _ _ _ from C7.out).mono ?_
            rintro e8 w8 ⟨rfl, f8⟩
            have HF8 := Lib.hid (HF6.out.trans f8)
            clear f8 C7
            go_wp2_with fail
            refine (show Calls _ _ _ _ _ from HO0.out w8).mono ?_
            rintro e9 w9 ⟨rfl, f9⟩
            have HF9 := Lib.hid (HF8.out.trans f9)
            clear f9
            by_cases h0 : r0 < 0
            · have hk0 : ok = false := by rw [← HOK.out]; exact decide_eq_false (fun h => by have := (HG3.out h).1; omega)
              subst hk0
              have dr : decide (r0 < 0) = true := decide_eq_true h0
              clear h0
              go_wp2_with fail
              refine (show Calls _ _ _ _ _ from HBK.out _ HF9.out).mono ?_
              rintro e10 w10 ⟨rfl, f10⟩
              have HF10 := Lib.hid (HF9.out.trans f10)
              clear f10
              go_wp2_with fail
              refine (show Calls _ _ _ _ _ from HBK.out _ HF10.out).mono ?_
              rintro e11 w11 ⟨rfl, f11⟩
              have HF11 := Lib.hid (HF10.out.trans f11)
              clear f11
              go_wp2_with fail
              refine (show Calls _ _ _ _ _ from HLN.out _ HF11.out).mono ?_
              rintro e12 w12 ⟨rfl, f12⟩
              have HF12 := Lib.hid (HF11.out.trans f12)
              clear f12
              go_wp2_with fail
              refine (show Calls _ _ _ _ _ from HAW.out _ HF12.out).mono ?_
              rintro e13 w13 ⟨rfl, f13⟩
              go_wp2_with fail
              go_ret
              exact ⟨rfl, (HWW.out.trans HF12.out).trans f13⟩
            · have dr : decide (r0 < 0) = false := decide_eq_false h0
              have C9 := Lib.hid (HLG.out w9 HF9.out)
              clear h0
              go_wp2_with fail
              refine (show Calls _ _ _ _ _ from C9.out).mono ?_
              rintro e14 w14 ⟨rfl, f14⟩
              have HF14 := Lib.hid (HF9.out.trans f14)
              clear f14 C9
              go_wp2_with fail
              refine (show Calls _ _ _ _ _ from HO1.out w14).mono ?_
              rintro e15 w15 ⟨rfl, f15⟩
              have HF15 := Lib.hid (HF14.out.trans f15)
              clear f15
              have hz : (decide (r1 > 0) && ok) = false := by
                cases h : ok with
                | false => simp
                | true =>
                  rw [h] at HOK
                  have := (HG3.out (of_decide_eq_true HOK.out)).2
                  rw [Bool.and_true]
                  exact decide_eq_false (by omega)
              obtain ⟨ot, hot⟩ : ∃ ot, decide (r1 > 0) = ot := ⟨_, rfl⟩
              rw [hot] at hz
              cases ot with
              | true =>
                obtain rfl : ok = false := by simpa using hz
                clear hz
                go_wp2_with fail
                refine (show Calls _ _ _ _ _ from HBK.out _ HF15.out).mono ?_
                rintro e10 w10 ⟨rfl, f10⟩
                have HF10 := Lib.hid (HF15.out.trans f10)
                clear f10
                go_wp2_with fail
                refine (show Calls _ _ _ _ _ from HBK.out _ HF10.out).mono ?_
                rintro e11 w11 ⟨rfl, f11⟩
                have HF11 := Lib.hid (HF10.out.trans f11)
                clear f11
                go_wp2_with fail
                refine (show Calls _ _ _ _ _ from HLN.out _ HF11.out).mono ?_
                rintro e12 w12 ⟨rfl, f12⟩
                have HF12 := Lib.hid (HF11.out.trans f12)
                clear f12
                go_wp2_with fail
                refine (show Calls _ _ _ _ _ from HAW.out _ HF12.out).mono ?_
                rintro e13 w13 ⟨rfl, f13⟩
                go_wp2_with fail
                go_ret
                exact ⟨rfl, (HWW.out.trans HF12.out).trans f13⟩
              | false =>
                clear hz
                go_wp2_with fail
                refine (show Calls _ _ _ _ _ from HBK.out _ HF15.out).mono ?_
                rintro e10 w10 ⟨rfl, f10⟩
                have HF10 := Lib.hid (HF15.out.trans f10)
                clear f10
                go_wp2_with fail
                refine (show Calls _ _ _ _ _ from HBK.out _ HF10.out).mono ?_
                rintro e11 w11 ⟨rfl, f11⟩
                have HF11 := Lib.hid (HF10.out.trans f11)
                clear f11
                go_wp2_with fail
                refine (show Calls _ _ _ _ _ from HLN.out _ HF11.out).mono ?_
                rintro e12 w12 ⟨rfl, f12⟩
                have HF12 := Lib.hid (HF11.out.trans f12)
                clear f12
                go_wp2_with fail
                refine (show Calls _ _ _ _ _ from HAW.out _ HF12.out).mono ?_
                rintro e13 w13 ⟨rfl, f13⟩
                go_wp2_with fail
                go_ret
                exact ⟨rfl, (HWW.out.trans HF12.out).trans f13⟩
      · have HAW := Lib.hid (AW.out w2 HF2.out)
        have dz : (er == 0) = false := by rw [beq_eq_false_iff_ne]; exact hez
        obtain ⟨vn, hvn⟩ : ∃ vn, (if er = 0 then TB l o else []).length = vn := ⟨_, rfl⟩
        rw [hvn]
        clear hin hvc hvm hez hvn
        go_wp2_with fail
        refine (show Calls _ _ _ _ _ from HAW.out).mono ?_
        rintro e7 w7 ⟨rfl, f7⟩
        go_wp2_with fail
        go_ret
        exact ⟨rfl, (HF0.out.trans HF2.out).trans f7⟩
  · rw [decide_eq_false hs] at CS
    unfold optV
    go_enter Tryz.func8, Tryz.ntmps8
    go_wp2_with fail
    rw [HW.out]
    refine (show Calls _ _ _ _ _ from CS.out).mono ?_
    rintro e1 w1 ⟨rfl, f1⟩
    have HF1 := Lib.hid (HF0.out.trans f1)
    have HAW := Lib.hid (AW.out w1 f1)
    clear f1 CS AW
    go_wp2_with fail
    refine (show Calls _ _ _ _ _ from HAW.out).mono ?_
    rintro e3 w3 ⟨rfl, f3⟩
    go_wp2_with fail
    go_ret
    exact ⟨rfl, HF1.out.trans f3⟩
end
end Go.Proofs.YtlobnbbndkhcbaaGreatDoor
