/-
  Layer 8: the walk of AllocRebuilds, over the contracts of a table and of a device (written by al_reb.py).
-/
import Derived.Test.YtdhkelgmcobhcaaAlH
namespace Go.Proofs.Ytdhkelgmcobhcaa
set_option linter.unusedVariables false
open Go.RowKit

section
variable {D : World → Nat → (Nat → Prop) → Dev → Prop} {T : World → Nat → (Nat → Prop) → Tb → Prop}
set_option maxRecDepth 20000 in
set_option maxHeartbeats 16000000 in
theorem allocRebuilds_walk (M : ZoneOK D) (A : AllocOK D T) (W : World) (z : Int) (wz : wf64 z) (a : Option Addr) (cap : Nat) (l : List Int) (hc : l.length ≤ cap) (hm : cap ≤ maxLen) (rd : Ints W a l) (a2 : Option Addr) (cap2 : Nat) (l2 : List Int) (hc2 : l2.length ≤ cap2) (hm2 : cap2 ≤ maxLen) (rd2 : Ints W a2 l2) :
    Calls Try.prog 6 #[.int .i64 z, .slice a l.length cap, .slice a2 l2.length cap2] W fun e w' => e = .returned (.bool true) ∧ Below W.heap.size W w' := by
  have HM := Lib.hid M
  have HA := Lib.hid A
  have HNEW := Lib.hid (newT_c A z W wz W (Fr.refl _ _))
  have HDEV := Lib.hid (fun (w : World) (f : Fr No W w) => device_c M z w wz W f)
  have fin : ∀ w' : World, Fr No W w' → Below W.heap.size W w' := fun w' f => f.below (Nat.le_refl _) (fun _ h => h.elim)
  have FIN := Lib.hid fin
  have hzb := wf_out wz
  have HRD := Lib.hid rd
  have HRD2 := Lib.hid rd2
  unfold maxLen at hm hm2
  obtain ⟨N, hN⟩ : ∃ N, l.length = N := ⟨_, rfl⟩
  obtain ⟨K, hK⟩ : ∃ K, l2.length = K := ⟨_, rfl⟩
  rw [hN] at hc
  rw [hN]
  rw [hK] at hc2
  rw [hK]
  have HN := Lib.hid hN
  have HK := Lib.hid hK
  clear fin rd rd2 wz hN hK
  go_enter Try.func6, Try.ntmps6
  go_wp2_with fail
  refine HNEW.out.mono ?_
  rintro e w1 ⟨f1, ⟨hz, rfl⟩ | ⟨hz, t, F1, rfl, h1, _⟩⟩
  · have he : ∀ w : World, (binOp .eql 23 (.pointer none) (.pointer none)).run Try.prog w = .ok (.bool true) w := fun _ => rfl
    have he2 : ∀ w : World, (binOp .neq 23 (.pointer none) (.pointer none)).run Try.prog w = .ok (.bool false) w := fun _ => rfl
    have HF1 := Lib.hid f1
    clear f1 HNEW
    go_wp2_with fail
    refine (HDEV.out _ HF1.out).mono ?_
    rintro e w2 ⟨f2, ⟨_, rfl⟩ | ⟨hz2, _⟩⟩
    · have HF2 := Lib.hid (HF1.out.trans f2)
      clear f2 HDEV
      by_cases h1 : z < 1
      · have d1 : decide (z < 1) = true := decide_eq_true h1
        clear hz h1 hzb
        go_wp2_with fail
        refine (awake_c HA.out _).mono ?_
        rintro e w3 ⟨rfl, f3⟩
        have HF3 := Lib.hid (HF2.out.trans f3)
        clear f3
        go_wp2_with fail
        go_ret
        exact ⟨rfl, FIN.out _ HF3.out⟩
      · have d1 : decide (z < 1) = false := decide_eq_false h1
        have d2 : decide ((64 : Int) < z) = true := by rw [decide_eq_true_eq]; omega
        clear hz h1 hzb
        go_wp2_with fail
        refine (awake_c HA.out _).mono ?_
        rintro e w3 ⟨rfl, f3⟩
        have HF3 := Lib.hid (HF2.out.trans f3)
        clear f3
        go_wp2_with fail
        go_ret
        exact ⟨rfl, FIN.out _ HF3.out⟩
    · exact absurd hz2 hz
  have he : ∀ w : World, (binOp .eql 23 (.pointer (some ⟨t, 0, none⟩)) (.pointer none)).run Try.prog w = .ok (.bool false) w := fun _ => rfl
  have he2 : ∀ w : World, (binOp .neq 23 (.pointer (some ⟨t, 0, none⟩)) (.pointer none)).run Try.prog w = .ok (.bool true) w := fun _ => rfl
  have H1 := Lib.hid h1
  clear h1 f1 HNEW hzb
  obtain ⟨Z, rfl⟩ : ∃ Z : Nat, z = (Z : Int) := ⟨z.toNat, by omega⟩
  go_wp2_with fail
  refine (HDEV.out _ H1.out.fr).mono ?_
  rintro e w2 ⟨f2, ⟨hz2, _⟩ | ⟨_, d, G1, rfl, h2, h3⟩⟩
  · exact absurd hz hz2
  have he3 : ∀ w : World, (binOp .eql 26 (.pointer (some ⟨d, 0, none⟩)) (.pointer none)).run Try.prog w = .ok (.bool false) w := fun _ => rfl
  have HO := Lib.hid (Own2.start A H1.out f2 h2 h3 (by simp [newM, newT]))
  have HZ : Hid (1 ≤ Z ∧ Z ≤ 64) := Lib.hid (by omega)
  clear H1 f2 h2 h3 HDEV hz
  by_cases hl0 : 80 < N
  · have d1 : decide ((80 : Int) < (N : Int)) = true := by rw [decide_eq_true_eq]; omega
    go_wp2_with fail
    refine (awake_c HA.out _).mono ?_
    rintro e w3 ⟨rfl, f3⟩
    have HF3 := Lib.hid (HO.out.fr.trans f3)
    clear f3
    go_wp2_with fail
    go_ret
    exact ⟨rfl, FIN.out _ HF3.out⟩
  have d1 : decide ((80 : Int) < (N : Int)) = false := by rw [decide_eq_false_iff_not]; omega
  by_cases hl1 : 80 < K
  · have d1 : decide ((80 : Int) < (K : Int)) = true := by rw [decide_eq_true_eq]; omega
    go_wp2_with fail
    refine (awake_c HA.out _).mono ?_
    rintro e w3 ⟨rfl, f3⟩
    have HF3 := Lib.hid (HO.out.fr.trans f3)
    clear f3
    go_wp2_with fail
    go_ret
    exact ⟨rfl, FIN.out _ HF3.out⟩
  have d2 : decide ((80 : Int) < (K : Int)) = false := by rw [decide_eq_false_iff_not]; omega
  have hmk := make_bools w2 Z HZ.out.2
  obtain ⟨hb, hhb⟩ : ∃ hb, w2.heap.size = hb := ⟨_, rfl⟩
  rw [hhb] at hmk
  have hat := At.new w2 4 (bos (List.replicate Z false))
  have fal := (Fr.refl No w2).alloc (.cells (bos (List.replicate Z false)) 4)
  have hsz : (w2.alloc (.cells (bos (List.replicate Z false)) 4)).heap.size = hb + 1 := by rw [World.size_alloc, hhb]
  rw [hhb] at hat
  have HOa := Lib.hid (HO.out.keep HM.out HA.out fal)
  have HB : Hid (Bes (AtS hb 4 (bos (List.replicate Z false))) W (w2.alloc (.cells (bos (List.replicate Z false)) 4)) F1 G1) := Lib.hid ⟨One hb, ⟨hat, rfl⟩, fun x hx => by
    obtain rfl : x = hb := hx
    have h1 := HO.out.tb.low HA.out x (by omega)
    have h2 := HO.out.dv.low HM.out x (by omega)
    have h3 := HO.out.fr.size
    exact ⟨h1, h2, by omega, by omega⟩⟩
  obtain ⟨BL, hBL⟩ : ∃ BL, bos (List.replicate Z false) = BL := ⟨_, rfl⟩
  rw [hBL] at hmk HOa HB
  have HBL := Lib.hid hBL
  clear hat fal hsz hBL HO
  go_wp2_with fail
  clear d1 d2 hmk
  go_loopw [58] (fun i wr => ∃ (k : Nat) (F : Nat → Prop) (b : Tb) (G : Nat → Prop) (hs : List Bool), i = .int .i64 k ∧ k ≤ N ∧ Own2 D T W wr t F b d G (newM (Z : Int) 16 (Z : Int)) ∧ HsB b hs Z ∧ Bes (AtS hb 4 (bos hs)) W wr F G) (fun i _ => N - (intOf i).toNat)
  case atStart => exact ⟨0, F1, _, G1, _, rfl, Nat.zero_le _, HOa.out, hs_new Z, by rw [HBL.out]; exact HB.out⟩
  case round =>
    clear HOa HB HBL
    obtain ⟨k, F, b, G, hs, rfl, hk, hO, hH, hB⟩ := hrel
    have HO := Lib.hid hO
    have HH := Lib.hid hH
    have HB := Lib.hid hB
    clear hO hH hB
    by_cases h1 : k < N
    · have d1 : decide ((k : Int) < (N : Int)) = true := by rw [decide_eq_true_eq]; omega
      obtain ⟨bb, o, rfl, hx⟩ := HRD.out (by rw [HN.out]; omega)
      obtain ⟨y, hy⟩ : ∃ y, l[k]? = some y := ⟨_, List.getElem?_eq_getElem (by rw [HN.out]; exact h1)⟩
      have q0 := HO.out.fr.cell (hx k y hy).1 (fun h => h)
      have HC := Lib.hid (HO.out.own HM.out HA.out (x := 1 + (k : Int) % 5) (hx k y hy).2 (wf_small (by omega) (by omega)))
      clear hx hy
      by_cases hE : ownE b y (1 + (k : Int) % 5) = 0
      · obtain ⟨e1, e2, e3⟩ := hs_own HH.out hE
        obtain ⟨yn, hyn⟩ : ∃ yn, y.toNat = yn := ⟨_, rfl⟩
        rw [hyn] at e1 e2 e3
        subst e2
        rw [hE] at HC
        have HH2 := Lib.hid e1
        clear hE e1 hyn
        generalize ownT b (yn : Int) (1 + (k : Int) % 5) = b3 at *
        go_wp2_with fail
        refine HC.out.mono ?_
        rintro e w3 ⟨rfl, F3, G3, h3, g1, g2, g3⟩
        obtain ⟨S, ⟨hat, hsb⟩, hS⟩ := HB.out.step (keepsA _ _ _) g1 g2 g3
        have c3 := bos_at hat (i := yn) (by rw [HH.out.hl]; exact e3)
        have f3 := hat.frozen yn
        have fs : Fr (One hb) w3 (w3.setCell ⟨hb, yn, none⟩ (.bool true)) := (Fr.refl (One hb) w3).setCell (p := ⟨hb, yn, none⟩) (fun _ => (rfl : hb = hb)) _
        have hS1 : ∀ x, One hb x → ¬ F3 x ∧ ¬ G3 x ∧ W.heap.size ≤ x ∧ x < w3.heap.size := fun x hx => by
          obtain rfl : x = hb := hx
          exact hS x hsb
        have HREL : Hid (Own2 D T W (w3.setCell ⟨hb, yn, none⟩ (.bool true)) t F3 b3 d G3 (newM (Z : Int) 16 (Z : Int)) ∧ Bes (AtS hb 4 (bos (hs.set yn true))) W (w3.setCell ⟨hb, yn, none⟩ (.bool true)) F3 G3) := Lib.hid ⟨h3.turnS HM.out HA.out fs hS1, One hb, ⟨bos_set hat yn true, rfl⟩, fun x hx => by
          obtain ⟨s1, s2, s3, s4⟩ := hS1 x hx
          exact ⟨s1, s2, s3, by simpa [World.setCell] using s4⟩⟩
        clear h3 HC g1 g2 g3 hat hsb hS fs hS1 HB HO
        generalize hs.getD yn false = ov at *
        go_wp2_with fail
        go_roundw
        case rel => exact ⟨k + 1, F3, b3, G3, _, by simp, by omega, HREL.out.1, HH2.out, HREL.out.2⟩
        case measure => simp [intOf]; omega
      · rw [own_no hE] at HC
        have dE : (ownE b y (1 + (k : Int) % 5) == 0) = false := by rw [beq_eq_false_iff_ne]; exact hE
        clear hE
        generalize ownE b y (1 + (k : Int) % 5) = E at *
        go_wp2_with fail
        refine HC.out.mono ?_
        rintro e w3 ⟨rfl, F3, G3, h3, g1, g2, g3⟩
        have HREL := Lib.hid (And.intro h3 (HB.out.step (keepsA _ _ _) g1 g2 g3))
        clear h3 HC g1 g2 g3 HB HO
        go_wp2_with fail
        go_roundw
        case rel => exact ⟨k + 1, F3, b, G3, hs, by simp, by omega, HREL.out.1, HH.out, HREL.out.2⟩
        case measure => simp [intOf]; omega
    · obtain rfl : k = N := by omega
      have d1 : decide ((k : Int) < (k : Int)) = false := by simp
      go_wp2_with fail
      clear d1
      go_loopw [76] (fun i wq => ∃ (j : Nat) (F : Nat → Prop) (G : Nat → Prop) (m : Dev), i = .int .i64 j ∧ j ≤ K ∧ Own2 D T W wq t F b d G m ∧ Calm m ∧ m.done ≤ j ∧ Bes (AtS hb 4 (bos hs)) W wq F G) (fun i _ => K - (intOf i).toNat)
      case atStart => exact ⟨0, F, G, _, rfl, Nat.zero_le _, HO.out, calm_new _ _ _, Nat.le_refl _, HB.out⟩
      case round =>
        clear HO HB
        obtain ⟨j, F2, G2, m, rfl, hj, hO, hCa, hdn, hB⟩ := hrel
        have HO := Lib.hid hO
        have HCA := Lib.hid hCa
        have HB := Lib.hid hB
        clear hO hCa hB
        by_cases h2 : j < K
        · have d1 : decide ((j : Int) < (K : Int)) = true := by rw [decide_eq_true_eq]; omega
          obtain ⟨bb, o, rfl, hx⟩ := HRD2.out (by rw [HK.out]; omega)
          obtain ⟨y, hy⟩ : ∃ y, l2[j]? = some y := ⟨_, List.getElem?_eq_getElem (by rw [HK.out]; exact h2)⟩
          have q0 := HO.out.fr.cell (hx j y hy).1 (fun h => h)
          have hwy := (hx j y hy).2
          have hd6 : m.done < 1000000 := by omega
          obtain ⟨bs, hbs⟩ : ∃ bs : List UInt8, bs = [7] := ⟨_, rfl⟩
          have hC0 := HO.out.appx HM.out HA.out hd6 y hwy bs 1 (by rw [hbs]; rfl) (by decide) (0, 0) _ rfl
          have hbm : (bs.map byt).toArray = #[Value.int .u8 7] := by rw [hbs]; rfl
          rw [hbm] at hC0
          have HC := Lib.hid hC0
          clear hC0 hbm hbs
          have HREL : Hid (Calm (appM m y bs) ∧ (appM m y bs).done ≤ j + 1) := Lib.hid ⟨calm_app HCA.out _ _, by have := done_app m y bs; omega⟩
          clear hx hy hdn
          generalize appM m y bs = m3 at *
          generalize cmdR m (appErr m y bs) = rv at *
          go_wp2_with fail
          refine HC.out.mono ?_
          rintro e w3 ⟨rfl, F3, G3, h3, g1, g2, g3⟩
          have H3 := Lib.hid (And.intro h3 (HB.out.step (keepsA _ _ _) g1 g2 g3))
          clear h3 HC g1 g2 g3 HB HO
          go_wp2_with fail
          go_roundw
          case rel => exact ⟨j + 1, F3, G3, m3, by simp, by omega, H3.out.1, HREL.out.1, HREL.out.2, H3.out.2⟩
          case measure => simp [intOf]; omega
        · obtain rfl : j = K := by omega
          have d1 : decide ((j : Int) < (j : Int)) = false := by simp
          have hml : m.zs.length = Z := by rw [HO.out.len, HH.out.l]
          have HRR := Lib.hid (fun (i : Nat) (hi : i < Z) => reb_role HH.out hml hi)
          have HFE := Lib.hid (fe_reb (b := b) HH.out.l hml)
          have HRB := Lib.hid (HO.out.rebuild HM.out HA.out)
          have hrq := reb_q m HH.out.q
          obtain ⟨hr1, hr2⟩ := reb_again b m
          obtain ⟨b2, hb2⟩ : ∃ b2, rebT b m = b2 := ⟨_, rfl⟩
          obtain ⟨n, hn⟩ : ∃ n, (rebL b m).length = n := ⟨_, rfl⟩
          rw [hb2] at HRR HFE HRB hrq hr1 hr2
          rw [hn] at HRB
          have HRB2 := Lib.hid (fun (w : World) (F G : Nat → Prop) (h : Own2 D T W w t F b2 d G m) => by
            have := h.rebuild HM.out HA.out
            rw [hr1, hr2] at this
            exact (show Calls _ _ _ _ (Mov2 D T W w t F b2 d G m (.int .i64 0)) from this))
          have HQU := Lib.hid (fun (w : World) (F G : Nat → Prop) (h : Own2 D T W w t F b2 d G m) => by
            have := h.queue HM.out HA.out
            unfold IntsRet at this
            rw [hrq, hn] at this
            exact this)
          have HNQ : Hid (b2.q.length = n) := Lib.hid (by rw [hrq, hn])
          have HDN := Lib.hid hdn
          have dn : ((n : Int) == (n : Int)) = true := by simp
          clear hb2 hn hrq hr1 hr2 hdn hml
          go_wp2_with fail
          refine HRB.out.mono ?_
          rintro e w3 ⟨rfl, F3, G3, h3, g1, g2, g3⟩
          have HB3 := Lib.hid (HB.out.step (keepsA _ _ _) g1 g2 g3)
          have HQ3 := Lib.hid (HQU.out _ _ _ h3)
          clear h3 g1 g2 g3 HRB HQU HB HO
          go_wp2_with fail
          refine HQ3.out.mono ?_
          rintro e w4 ⟨⟨qa, qc, rfl, _, _, _, hq4⟩, hO4⟩
          have HB4 := Lib.hid (HB3.out.quiet (keepsA _ _ _) hq4)
          have HR4 := Lib.hid (HRB2.out _ _ _ hO4)
          clear hq4 hO4 HQ3 HB3 HRB2
          go_wp2_with fail
          refine HR4.out.mono ?_
          rintro e w5 ⟨rfl, F5, G5, h5, g1, g2, g3⟩
          have HB5 := Lib.hid (HB4.out.step (keepsA _ _ _) g1 g2 g3)
          have HO5 := Lib.hid h5
          clear h5 g1 g2 g3 HR4 HB4
          go_wp2_with fail
          clear d1 dn
          go_loopw [100] (fun i wq => ∃ (k : Nat) (F : Nat → Prop) (G : Nat → Prop), i = .int .i64 k ∧ k ≤ Z ∧ Own2 D T W wq t F b2 d G m ∧ Bes (AtS hb 4 (bos hs)) W wq F G) (fun i _ => Z - (intOf i).toNat)
          case atStart => exact ⟨0, F5, G5, rfl, Nat.zero_le _, HO5.out, HB5.out⟩
          case round =>
            clear HO5 HB5
            obtain ⟨k3, F6, G6, rfl, hk3, hO, hB⟩ := hrel
            have HO := Lib.hid hO
            have HB := Lib.hid hB
            have hZ64 := HZ.out.2
            clear hO hB
            by_cases h4 : k3 < Z
            · have d1 : decide ((k3 : Int) < (Z : Int)) = true := by rw [decide_eq_true_eq]; omega
              have HRO := Lib.hid (HO.out.role HM.out HA.out (z := (k3 : Int)) (wf_small (by omega) (by omega)))
              have HST := Lib.hid (fun (w : World) (F G : Nat → Prop) (h : Own2 D T W w t F b2 d G m) => h.state HM.out HA.out (z := (k3 : Int)) (wf_small (by omega) (by omega)))
              have hcs := HRR.out k3 h4
              have HBT := Lib.hid (fun (w : World) (F G : Nat → Prop) (h : Bes (AtS hb 4 (bos hs)) W w F G) => by
                obtain ⟨S, ⟨hat, _⟩, _⟩ := h
                exact bos_at hat (i := k3) (by rw [HH.out.hl]; exact h4))
              rcases hcs with ⟨hh, x, hx, hx1, hx5⟩ | ⟨hh, hx, hs0⟩ | ⟨hh, hx, hs0⟩
              · rw [hh] at HBT
                rw [hx] at HRO
                have dx1 : decide ((1 : Int) ≤ (x : Int)) = true := by rw [decide_eq_true_eq]; omega
                have dx5 : decide ((x : Int) ≤ 5) = true := by rw [decide_eq_true_eq]; omega
                clear hh hx HST
                go_wp2_with fail
                refine HRO.out.mono ?_
                rintro e w7 ⟨rfl, F7, G7, h7, g1, g2, g3⟩
                have hb7 := HB.out.step (keepsA _ _ _) g1 g2 g3
                have c7 := HBT.out _ _ _ hb7
                have HREL := Lib.hid (And.intro h7 hb7)
                clear h7 hb7 g1 g2 g3 HRO HB HO HBT
                go_wp2_with fail
                go_roundw
                case rel => exact ⟨k3 + 1, F7, G7, by simp, by omega, HREL.out.1, HREL.out.2⟩
                case measure => simp [intOf]; omega
              · rw [hh] at HBT
                rw [hx] at HRO
                rw [hs0] at HST
                clear hh hx hs0
                go_wp2_with fail
                refine HRO.out.mono ?_
                rintro e w7 ⟨rfl, F7, G7, h7, g1, g2, g3⟩
                have hb7 := HB.out.step (keepsA _ _ _) g1 g2 g3
                have c7 := HBT.out _ _ _ hb7
                have HS7 := Lib.hid (HST.out _ _ _ h7)
                have HB7 := Lib.hid hb7
                clear h7 hb7 g1 g2 g3 HRO HB HO HBT HST
                go_wp2_with fail
                refine HS7.out.mono ?_
                rintro e w8 ⟨rfl, F8, G8, h8, g1, g2, g3⟩
                have HREL := Lib.hid (And.intro h8 (HB7.out.step (keepsA _ _ _) g1 g2 g3))
                clear h8 g1 g2 g3 HS7 HB7
                go_wp2_with fail
                go_roundw
                case rel => exact ⟨k3 + 1, F8, G8, by simp, by omega, HREL.out.1, HREL.out.2⟩
                case measure => simp [intOf]; omega
              · rw [hh] at HBT
                rw [hx] at HRO
                have ds : decide (0 < stateM m (k3 : Int)) = true := by rw [decide_eq_true_eq]; exact hs0
                clear hh hx hs0
                generalize stateM m (k3 : Int) = sv at *
                go_wp2_with fail
                refine HRO.out.mono ?_
                rintro e w7 ⟨rfl, F7, G7, h7, g1, g2, g3⟩
                have hb7 := HB.out.step (keepsA _ _ _) g1 g2 g3
                have c7 := HBT.out _ _ _ hb7
                have HS7 := Lib.hid (HST.out _ _ _ h7)
                have HB7 := Lib.hid hb7
                clear h7 hb7 g1 g2 g3 HRO HB HO HBT HST
                go_wp2_with fail
                refine HS7.out.mono ?_
                rintro e w8 ⟨rfl, F8, G8, h8, g1, g2, g3⟩
                have HREL := Lib.hid (And.intro h8 (HB7.out.step (keepsA _ _ _) g1 g2 g3))
                clear h8 g1 g2 g3 HS7 HB7
                go_wp2_with fail
                go_roundw
                case rel => exact ⟨k3 + 1, F8, G8, by simp, by omega, HREL.out.1, HREL.out.2⟩
                case measure => simp [intOf]; omega
            · obtain rfl : k3 = Z := by omega
              have d1 : decide ((k3 : Int) < (k3 : Int)) = false := by simp
              have hn64 : n ≤ 64 := by
                have h8 := wt_q HO.out.tb.wt
                rw [HNQ.out] at h8
                exact h8
              clear HB
              go_wp2_with fail
              clear d1
              go_loopw [135] (fun i wq => ∃ (k : Nat) (F : Nat → Prop) (b : Tb) (G : Nat → Prop) (m : Dev), i = .int .i64 k ∧ k ≤ n ∧ Own2 D T W wq t F b d G m ∧ FeB b m k3 ∧ Calm m ∧ m.done ≤ 80 + k ∧ b.q.length = n - k) (fun i _ => n - (intOf i).toNat)
              case atStart => exact ⟨0, F6, b2, G6, m, rfl, Nat.zero_le _, HO.out, HFE.out, HCA.out, by have := HDN.out; omega, by rw [HNQ.out]; rfl⟩
              case round =>
                clear HO HFE HCA HRR HNQ
                obtain ⟨r, F7, b7, G7, m7, rfl, hr, hO, hF, hCa, hdn, hql⟩ := hrel
                have HO := Lib.hid hO
                have HFE := Lib.hid hF
                have HCA := Lib.hid hCa
                clear hO hF hCa
                by_cases h5 : r < n
                · have d1 : decide ((r : Int) < (n : Int)) = true := by rw [decide_eq_true_eq]; omega
                  obtain ⟨zq, zs, hq⟩ : ∃ z zs, b7.q = z :: zs := by
                    cases hq : b7.q with
                    | nil => rw [hq] at hql; simp at hql; omega
                    | cons z zs => exact ⟨z, zs, rfl⟩
                  have hwq := wt_q HO.out.tb.wt
                  obtain ⟨e1, e2, e3, e4⟩ := fe_rst HFE.out HO.out.tb.wt HCA.out hq
                  have HC := Lib.hid (HO.out.reset HA.out (by omega))
                  rw [e1] at HC
                  have HREL : Hid (FeB (rstT b7 m7) (rstM b7 m7) k3 ∧ Calm (rstM b7 m7) ∧ (rstM b7 m7).done ≤ 80 + (r + 1) ∧ (rstT b7 m7).q.length = n - (r + 1)) := Lib.hid ⟨e2, e3, by have := done_rst b7 m7; omega, by rw [e4]; rw [hq, List.length_cons] at hql; omega⟩
                  clear e1 e2 e3 e4 hq hql hdn hwq
                  generalize rstT b7 m7 = b8 at *
                  generalize rstM b7 m7 = m8 at *
                  generalize rstZ b7 m7 = rz at *
                  go_wp2_with fail
                  refine HC.out.mono ?_
                  rintro e w8 ⟨rfl, F8, G8, h8, _, _, _⟩
                  have H8 := Lib.hid h8
                  clear h8 HC HO
                  go_wp2_with fail
                  go_roundw
                  case rel => exact ⟨r + 1, F8, b8, G8, m8, by simp, by omega, H8.out, HREL.out.1, HREL.out.2.1, HREL.out.2.2.1, HREL.out.2.2.2⟩
                  case measure => simp [intOf]; omega
                · obtain rfl : r = n := by omega
                  have d1 : decide ((r : Int) < (r : Int)) = false := by simp
                  have hq0 : b7.q = [] := List.eq_nil_of_length_eq_zero (by omega)
                  have HLI := Lib.hid (HO.out.list HM.out HA.out (x := 0) (by decide))
                  unfold IntsRet at HLI
                  have HEM := Lib.hid (fun z (hz : z ∈ listT b7 0) => fe_list HFE.out hz)
                  have HCN := Lib.hid (fun (w : World) (F G : Nat → Prop) (h : Own2 D T W w t F b7 d G m7) => by
                    have := h.count HM.out HA.out (x := 6) (by decide)
                    rw [count_six HO.out.tb.wt hq0] at this
                    exact (show Calls _ _ _ _ (Mov2 D T W w t F b7 d G m7 (.int .i64 0)) from this))
                  have hll := list_len b7 0
                  rw [HFE.out.l] at hll
                  obtain ⟨L, hL⟩ : ∃ L, listT b7 0 = L := ⟨_, rfl⟩
                  rw [hL] at HLI HEM hll
                  obtain ⟨ln, hln⟩ : ∃ ln, L.length = ln := ⟨_, rfl⟩
                  rw [hln] at HLI hll
                  have HLN := Lib.hid hln
                  clear hL hln hq0 hql hdn
                  go_wp2_with fail
                  refine HLI.out.mono ?_
                  rintro e w8 ⟨⟨qa, qc, rfl, hq1, hq2, hq3, hq4⟩, hO8⟩
                  have HO8 := Lib.hid hO8
                  have HI8 := Lib.hid hq3
                  clear hq3 hq4 hO8 HLI HO
                  go_wp2_with fail
                  clear d1
                  go_loopw [149] (fun i wq => ∃ (k : Nat), i = .int .i64 k ∧ k ≤ ln ∧ Own2 D T W wq t F7 b7 d G7 m7 ∧ Ints wq qa (L.map fun (x : Nat) => (x : Int))) (fun i _ => ln - (intOf i).toNat)
                  case atStart => exact ⟨0, rfl, Nat.zero_le _, HO8.out, HI8.out⟩
                  case round =>
                    clear HO8 HI8
                    obtain ⟨j9, rfl, hj9, hO, hI⟩ := hrel
                    have HO := Lib.hid hO
                    have HI := Lib.hid hI
                    clear hO hI
                    by_cases h6 : j9 < ln
                    · have d1 : decide ((j9 : Int) < (ln : Int)) = true := by rw [decide_eq_true_eq]; omega
                      obtain ⟨bb, o, rfl, hx⟩ := HI.out (by rw [List.length_map, HLN.out]; omega)
                      have hjl : j9 < L.length := by rw [HLN.out]; exact h6
                      obtain ⟨zz, hzz⟩ : ∃ z, L[j9] = z := ⟨_, rfl⟩
                      have hq0 := hx j9 (zz : Int) (by rw [List.getElem?_map, List.getElem?_eq_getElem hjl, hzz]; rfl)
                      have q0 := hq0.1
                      have hz0 := (HEM.out zz (by rw [← hzz]; exact List.getElem_mem hjl)).1
                      have HC := Lib.hid (HO.out.dv.state HM.out hq0.2)
                      rw [hz0] at HC
                      clear hx hzz hq0 hz0 hjl
                      go_wp2_with fail
                      refine HC.out.mono ?_
                      rintro e w9 ⟨rfl, _, f9⟩
                      have HREL := Lib.hid (And.intro (HO.out.keep HM.out HA.out f9) (HI.out.keep f9))
                      clear f9 HC HO HI
                      go_wp2_with fail
                      go_roundw
                      case rel => exact ⟨j9 + 1, by simp, by omega, HREL.out.1, HREL.out.2⟩
                      case measure => simp [intOf]; omega
                    · obtain rfl : j9 = ln := by omega
                      have d1 : decide ((j9 : Int) < (j9 : Int)) = false := by simp
                      have HC := Lib.hid (HCN.out _ _ _ HO.out)
                      clear HCN HI
                      go_wp2_with fail
                      refine HC.out.mono ?_
                      rintro e w9 ⟨rfl, F9, G9, h9, _, _, _⟩
                      have H9 := Lib.hid h9.fr
                      clear h9 HC HO
                      go_wp2_with fail
                      refine (awake_c HA.out _).mono ?_
                      rintro e w10 ⟨rfl, f10⟩
                      have HF10 := Lib.hid (H9.out.trans f10)
                      clear f10
                      go_wp2_with fail
                      go_ret
                      exact ⟨rfl, FIN.out _ HF10.out⟩
end
end Go.Proofs.Ytdhkelgmcobhcaa
