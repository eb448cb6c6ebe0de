/-
  Layer 8: the walk of AllocOne, over the contracts of a table and of a device (written by al_one.py).
-/
import Derived.Test.YtdhkelgmcobhcaaAlI
import Derived.Test.YtdhkelgmcobhcaaAlO
import Derived.Deep.Cut
import Derived.Deep.CutRange
import Derived.Deep.CutBlock
namespace Go.Proofs.Ytdhkelgmcobhcaa
set_option linter.unusedVariables false
open Go.RowKit

section
variable {D : World → Nat → (Nat → Prop) → Dev → Prop} {T : World → Nat → (Nat → Prop) → Tb → Prop}
set_option maxRecDepth 20000 in
set_option maxHeartbeats 16000000 in
theorem allocOne_walk (M : ZoneOK D) (A : AllocOK D T) (W : World) (z : Int) (wz : wf64 z) (a : Option Addr) (cap : Nat) (l : List Op8) (hc : l.length ≤ cap) (hm : cap ≤ maxLen) (rd : Op8s W a l) :
    Calls Try.prog 4 #[.int .i64 z, .slice a l.length cap] W fun e w' => e = .returned (.bool true) ∧ Below W.heap.size W w' := by
  have HM := Lib.hid M
  have HA := Lib.hid A
  have HNEW := Lib.hid (newT_c A z W wz W (Fr.refl _ _))
  have HDEV := Lib.hid (fun (w : World) (f : Fr No W w) => device_c M z w wz W f)
  have fin : ∀ w' : World, Fr No W w' → Below W.heap.size W w' := fun w' f => f.below (Nat.le_refl _) (fun _ h => h.elim)
  have FIN := Lib.hid fin
  have hzb := wf_out wz
  have HRD := Lib.hid rd
  unfold maxLen at hm
  obtain ⟨N, hN⟩ : ∃ N, l.length = N := ⟨_, rfl⟩
  rw [hN] at hc
  rw [hN]
  have HN := Lib.hid hN
  clear fin rd wz hN
  go_enter Try.func4, Try.ntmps4
  go_wp2_with fail
  refine HNEW.out.mono ?_
  rintro e w1 ⟨f1, ⟨hz, rfl⟩ | ⟨hz, t, F1, rfl, h1, _⟩⟩
  · have he : ∀ w : World, (binOp .eql 23 (.pointer none) (.pointer none)).run Try.prog w = .ok (.bool true) w := fun _ => rfl
    have he2 : ∀ w : World, (binOp .neq 23 (.pointer none) (.pointer none)).run Try.prog w = .ok (.bool false) w := fun _ => rfl
    have HF1 := Lib.hid f1
    clear f1 HNEW
    go_wp2_with fail
    refine (HDEV.out _ HF1.out).mono ?_
    rintro e w2 ⟨f2, ⟨_, rfl⟩ | ⟨hz2, _⟩⟩
    · have HF2 := Lib.hid (HF1.out.trans f2)
      clear f2 HDEV
      by_cases h1 : z < 1
      · have d1 : decide (z < 1) = true := decide_eq_true h1
        clear hz h1 hzb
        go_wp2_with fail
        refine (awake_c HA.out _).mono ?_
        rintro e w3 ⟨rfl, f3⟩
        have HF3 := Lib.hid (HF2.out.trans f3)
        clear f3
        go_wp2_with fail
        go_ret
        exact ⟨rfl, FIN.out _ HF3.out⟩
      · have d1 : decide (z < 1) = false := decide_eq_false h1
        have d2 : decide ((64 : Int) < z) = true := by rw [decide_eq_true_eq]; omega
        clear hz h1 hzb
        go_wp2_with fail
        refine (awake_c HA.out _).mono ?_
        rintro e w3 ⟨rfl, f3⟩
        have HF3 := Lib.hid (HF2.out.trans f3)
        clear f3
        go_wp2_with fail
        go_ret
        exact ⟨rfl, FIN.out _ HF3.out⟩
    · exact absurd hz2 hz
  have he : ∀ w : World, (binOp .eql 23 (.pointer (some ⟨t, 0, none⟩)) (.pointer none)).run Try.prog w = .ok (.bool false) w := fun _ => rfl
  have he2 : ∀ w : World, (binOp .neq 23 (.pointer (some ⟨t, 0, none⟩)) (.pointer none)).run Try.prog w = .ok (.bool true) w := fun _ => rfl
  have H1 := Lib.hid h1
  clear h1 f1 HNEW hzb
  obtain ⟨Z, rfl⟩ : ∃ Z : Nat, z = (Z : Int) := ⟨z.toNat, by omega⟩
  go_wp2_with fail
  refine (HDEV.out _ H1.out.fr).mono ?_
  rintro e w2 ⟨f2, ⟨hz2, _⟩ | ⟨_, d, G1, rfl, h2, h3⟩⟩
  · exact absurd hz hz2
  have he3 : ∀ w : World, (binOp .eql 26 (.pointer (some ⟨d, 0, none⟩)) (.pointer none)).run Try.prog w = .ok (.bool false) w := fun _ => rfl
  have HO := Lib.hid (Own2.start A H1.out f2 h2 h3 (by simp [newM, newT]))
  have HZ : Hid (1 ≤ Z ∧ Z ≤ 64) := Lib.hid (by omega)
  clear H1 f2 h2 h3 HDEV hz
  by_cases hl0 : 120 < N
  · have d1 : decide ((120 : Int) < (N : Int)) = true := by rw [decide_eq_true_eq]; omega
    go_wp2_with fail
    refine (awake_c HA.out _).mono ?_
    rintro e w3 ⟨rfl, f3⟩
    have HF3 := Lib.hid (HO.out.fr.trans f3)
    clear f3
    go_wp2_with fail
    go_ret
    exact ⟨rfl, FIN.out _ HF3.out⟩
  have d1 : decide ((120 : Int) < (N : Int)) = false := by rw [decide_eq_false_iff_not]; omega
  have hmk := make_bools w2 Z HZ.out.2
  obtain ⟨hb, hhb⟩ : ∃ hb, w2.heap.size = hb := ⟨_, rfl⟩
  rw [hhb] at hmk
  have hat := At.new w2 4 (bos (List.replicate Z false))
  have fal := (Fr.refl No w2).alloc (.cells (bos (List.replicate Z false)) 4)
  have hsz : (w2.alloc (.cells (bos (List.replicate Z false)) 4)).heap.size = hb + 1 := by rw [World.size_alloc, hhb]
  rw [hhb] at hat
  have HOa := Lib.hid (HO.out.keep HM.out HA.out fal)
  have HB : Hid (Bes (AtS hb 4 (bos (List.replicate Z false))) W (w2.alloc (.cells (bos (List.replicate Z false)) 4)) F1 G1) := Lib.hid ⟨One hb, ⟨hat, rfl⟩, fun x hx => by
    obtain rfl : x = hb := hx
    have h1 := HO.out.tb.low HA.out x (by omega)
    have h2 := HO.out.dv.low HM.out x (by omega)
    have h3 := HO.out.fr.size
    exact ⟨h1, h2, by omega, by omega⟩⟩
  obtain ⟨BL, hBL⟩ : ∃ BL, bos (List.replicate Z false) = BL := ⟨_, rfl⟩
  rw [hBL] at hmk HOa HB
  have HBL := Lib.hid hBL
  clear hat fal hsz hBL HO
  go_wp2_with fail
  clear d1 hmk
  go_loopw [54] (fun i wr => ∃ (j : Nat) (F : Nat → Prop) (b : Tb) (G : Nat → Prop) (m : Dev) (hs : List Bool), i = .int .i64 j ∧ j ≤ N ∧ Own2 D T W wr t F b d G m ∧ HeB b hs Z ∧ m.done ≤ j ∧ Bes (AtS hb 4 (bos hs)) W wr F G) (fun i _ => N - (intOf i).toNat)
  case atStart => exact ⟨0, F1, _, G1, _, _, rfl, Nat.zero_le _, HOa.out, he_new Z, Nat.le_refl _, by rw [HBL.out]; exact HB.out⟩
  case round =>
    clear HOa HB HBL
    obtain ⟨j, F, b, G, m, hs, rfl, hj, hO, hH, hdn, hB⟩ := hrel
    have HO := Lib.hid hO
    have HH := Lib.hid hH
    have HB := Lib.hid hB
    clear hO hH hB
    by_cases h1 : j < N
    · have d1 : decide ((j : Int) < (N : Int)) = true := by rw [decide_eq_true_eq]; omega
      obtain ⟨bb, o, rfl, hx⟩ := HRD.out (by rw [HN.out]; omega)
      obtain ⟨x, hx0⟩ : ∃ x, l[j]? = some x := ⟨_, List.getElem?_eq_getElem (by rw [HN.out]; exact h1)⟩
      have hxj := (hx j x hx0).keep HO.out.fr
      have q0 := hxj.c0
      have q1 := hxj.c1
      have q2 := hxj.c2
      have HWF : Hid (wf64 x.z ∧ wf64 x.n) := Lib.hid ⟨hxj.wz, hxj.wn⟩
      clear hx hx0 hxj
      obtain ⟨xk, xz, xn⟩ := x
      simp only at q0 q1 q2
      have HWF : Hid (wf64 xz ∧ wf64 xn) := Lib.hid HWF.out
      have A1 := At.new wr 33 #[.int .i64 xk, .int .i64 xz, .int .i64 xn]
      have f1 := (Fr.refl No wr).alloc (.cells #[.int .i64 xk, .int .i64 xz, .int .i64 xn] 33)
      have hO1 := HO.out.keep HM.out HA.out f1
      have hB1 := HB.out.quiet (keepsA _ _ _) f1
      have HNF : Hid (¬ F wr.heap.size ∧ ¬ G wr.heap.size) := Lib.hid ⟨HO.out.tb.low HA.out _ (Nat.le_refl _), HO.out.dv.low HM.out _ (Nat.le_refl _)⟩
      obtain ⟨wv, hwv⟩ : ∃ x, wr.alloc (.cells #[.int .i64 xk, .int .i64 xz, .int .i64 xn] 33) = x := ⟨_, rfl⟩
      rw [hwv] at A1 hO1 hB1
      have v0 : wv.cell? ⟨wr.heap.size, 0, none⟩ = some (.int .i64 xk) := A1.cell 0
      have v1 : wv.cell? ⟨wr.heap.size, 1, none⟩ = some (.int .i64 xz) := A1.cell 1
      have v2 : wv.cell? ⟨wr.heap.size, 2, none⟩ = some (.int .i64 xn) := A1.cell 2
      have HO1 := Lib.hid hO1
      have HB1 := Lib.hid hB1
      have hd6 : m.done < 1000000 := by omega
      clear A1 f1 hO1 hB1 HO HB
      go_upto_block 2 with fail
      go_cut [10, 11, 12, 13, 54] from 54 to 196 (fun s10 s11 s12 s13 s54 w' => s54 = .int .i64 (j : Int) ∧ ∃ (F6 : Nat → Prop) (b6 : Tb) (G6 : Nat → Prop) (m6 : Dev) (hs6 : List Bool), Own2 D T W w' t F6 b6 d G6 m6 ∧ HeB b6 hs6 Z ∧ m6.done ≤ j + 1 ∧ Bes (AtS hb 4 (bos hs6)) W w' F6 G6)
      case first =>
        by_cases k1 : xk = 1
        · subst k1
          have HC := Lib.hid (HO1.out.take HM.out HA.out HWF.out.2)
          by_cases hE : takE b xn = 0
          · obtain ⟨f, e1, e2, e3, e4, e5⟩ := he_take HH.out hE
            rw [hE, e1] at HC
            obtain ⟨b7, hb7⟩ : ∃ x, takT b xn = x := ⟨_, rfl⟩
            rw [hb7] at HC e4 e5
            have HH7 := Lib.hid e4
            clear hE hb7 e1 e4
            go_wp2_with fail
            refine HC.out.mono ?_
            rintro e w7 ⟨rfl, F7, G7, h7, g1, g2, g3⟩
            have v2 := g3.cell v2 (fun h => h.elim HNF.out.1 HNF.out.2)
            have hB7 := HB1.out.step (keepsA _ _ _) g1 g2 g3
            have h7d := h7.keep HM.out HA.out (Fr.refl No w7).drew
            have HB7 := Lib.hid (hB7.quiet (keepsA _ _ _) (Fr.refl No w7).drew)
            have c7 : w7.cell? ⟨hb, f, none⟩ = some (.bool false) := by
              obtain ⟨S, ⟨hat, hsb⟩, hS⟩ := hB7
              rw [bos_at hat (i := f) (by rw [HH.out.hl]; exact e2), e3]
            have HRO := Lib.hid (h7d.tb.role HA.out (z := (f : Int)) (wf_small (by omega) (by have := HZ.out.2; omega)))
            rw [e5] at HRO
            have H7 := Lib.hid h7d
            have dx : (xn == xn) = true := by simp
            clear h7 hB7 h7d g1 g2 g3 HC HB1 HO1
            go_wp2_with fail
            go_region_held3 (fun w' => w'.cell? ⟨hb, f, none⟩ = some (.bool false) ∧ w'.cell? ⟨wr.heap.size, 2, none⟩ = some (.int .i64 xn)) (first | assumption | go_keep)
              (first
                | (go_at_call 26; refine HRO.out.mono ?_; rintro e w8 ⟨rfl, _, f8⟩
                   have c7 := f8.cell c7 (fun h => h)
                   have v2 := f8.cell v2 (fun h => h)
                   have HF8 := Lib.hid f8
                   clear f8))
            have h8 := H7.out.keep HM.out HA.out HF8.out
            have hB8 := HB7.out.quiet (keepsA _ _ _) HF8.out
            clear c7
            obtain ⟨S, ⟨hat, hsb⟩, hS⟩ := hB8
            have c8 := bos_at hat (i := f) (by rw [HH.out.hl]; exact e2)
            have f8 := hat.frozen f
            have fs : Fr (One hb) w8 (w8.setCell ⟨hb, f, none⟩ (.bool true)) := (Fr.refl (One hb) w8).setCell (p := ⟨hb, f, none⟩) (fun _ => (rfl : hb = hb)) _
            have hS1 : ∀ x, One hb x → ¬ F7 x ∧ ¬ G7 x ∧ W.heap.size ≤ x ∧ x < w8.heap.size := fun x hx => by
              obtain rfl : x = hb := hx
              exact hS x hsb
            have HREL : Hid (Own2 D T W (w8.setCell ⟨hb, f, none⟩ (.bool true)) t F7 b7 d G7 m ∧ Bes (AtS hb 4 (bos (hs.set f true))) W (w8.setCell ⟨hb, f, none⟩ (.bool true)) F7 G7) := Lib.hid ⟨h8.turnS HM.out HA.out fs hS1, One hb, ⟨bos_set hat f true, rfl⟩, fun x hx => by
              obtain ⟨s1, s2, s3, s4⟩ := hS1 x hx
              exact ⟨s1, s2, s3, by simpa [World.setCell] using s4⟩⟩
            rw [e3] at c8
            clear h8 hat hsb hS fs hS1 HB7 H7
            go_wp2_with fail
            go_meet
            exact ⟨rfl, F7, b7, G7, m, _, HREL.out.1, HH7.out, by omega, HREL.out.2⟩
          · rw [take_no hE] at HC
            have dE : (takE b xn == 0) = false := by rw [beq_eq_false_iff_ne]; exact hE
            clear hE
            generalize takE b xn = E at *
            generalize takZ b xn = zz at *
            go_wp2_with fail
            refine HC.out.mono ?_
            rintro e w7 ⟨rfl, F7, G7, h7, g1, g2, g3⟩
            have HREL := Lib.hid (And.intro h7 (HB1.out.step (keepsA _ _ _) g1 g2 g3))
            clear h7 g1 g2 g3 HC HB1 HO1
            go_wp2_with fail
            go_meet
            exact ⟨rfl, F7, b, G7, m, hs, HREL.out.1, HH.out, by omega, HREL.out.2⟩
        by_cases k2 : xk = 2
        · subst k2
          have HC := Lib.hid (HO1.out.own HM.out HA.out HWF.out.1 HWF.out.2)
          by_cases hE : ownE b xz xn = 0
          · obtain ⟨e1, e2, e3, e4⟩ := he_own HH.out hE
            obtain ⟨zn, hzn⟩ : ∃ x, xz.toNat = x := ⟨_, rfl⟩
            rw [hzn] at e1 e2 e3 e4
            subst e1
            rw [hE] at HC
            obtain ⟨b7, hb7⟩ : ∃ x, ownT b (zn : Int) xn = x := ⟨_, rfl⟩
            rw [hb7] at HC e4
            have HH7 := Lib.hid e4
            clear hE hb7 e4 hzn
            go_wp2_with fail
            refine HC.out.mono ?_
            rintro e w7 ⟨rfl, F7, G7, h8, g1, g2, g3⟩
            have v1 := g3.cell v1 (fun h => h.elim HNF.out.1 HNF.out.2)
            have hB8 := HB1.out.step (keepsA _ _ _) g1 g2 g3
            obtain ⟨S, ⟨hat, hsb⟩, hS⟩ := hB8
            have c8 := bos_at hat (i := zn) (by rw [HH.out.hl]; exact e2)
            have f8 := hat.frozen zn
            have fs : Fr (One hb) w7 (w7.setCell ⟨hb, zn, none⟩ (.bool true)) := (Fr.refl (One hb) w7).setCell (p := ⟨hb, zn, none⟩) (fun _ => (rfl : hb = hb)) _
            have hS1 : ∀ x, One hb x → ¬ F7 x ∧ ¬ G7 x ∧ W.heap.size ≤ x ∧ x < w7.heap.size := fun x hx => by
              obtain rfl : x = hb := hx
              exact hS x hsb
            have HREL : Hid (Own2 D T W (w7.setCell ⟨hb, zn, none⟩ (.bool true)) t F7 b7 d G7 m ∧ Bes (AtS hb 4 (bos (hs.set zn true))) W (w7.setCell ⟨hb, zn, none⟩ (.bool true)) F7 G7) := Lib.hid ⟨h8.turnS HM.out HA.out fs hS1, One hb, ⟨bos_set hat zn true, rfl⟩, fun x hx => by
              obtain ⟨s1, s2, s3, s4⟩ := hS1 x hx
              exact ⟨s1, s2, s3, by simpa [World.setCell] using s4⟩⟩
            rw [e3] at c8
            clear h8 g1 g2 g3 hat hsb hS fs hS1 HB1 HO1 HC
            go_wp2_with fail
            go_meet
            exact ⟨rfl, F7, b7, G7, m, _, HREL.out.1, HH7.out, by omega, HREL.out.2⟩
          · rw [own_no hE] at HC
            have dE : (ownE b xz xn == 0) = false := by rw [beq_eq_false_iff_ne]; exact hE
            clear hE
            generalize ownE b xz xn = E at *
            go_wp2_with fail
            refine HC.out.mono ?_
            rintro e w7 ⟨rfl, F7, G7, h7, g1, g2, g3⟩
            have HREL := Lib.hid (And.intro h7 (HB1.out.step (keepsA _ _ _) g1 g2 g3))
            clear h7 g1 g2 g3 HC HB1 HO1
            go_wp2_with fail
            go_meet
            exact ⟨rfl, F7, b, G7, m, hs, HREL.out.1, HH.out, by omega, HREL.out.2⟩
        by_cases k3 : xk = 3
        · subst k3
          have HC := Lib.hid (HO1.out.release HM.out HA.out HWF.out.1)
          by_cases hE : relE b xz = 0
          · obtain ⟨e1, e2, e3, e4⟩ := he_rel HH.out hE
            obtain ⟨zn, hzn⟩ : ∃ x, xz.toNat = x := ⟨_, rfl⟩
            rw [hzn] at e1 e2 e3
            subst e1
            rw [hE] at HC
            obtain ⟨b7, hb7⟩ : ∃ x, relT b (zn : Int) = x := ⟨_, rfl⟩
            rw [hb7] at HC e4
            have HH7 := Lib.hid e4
            clear hE hb7 e4 hzn
            go_wp2_with fail
            refine HC.out.mono ?_
            rintro e w7 ⟨rfl, F7, G7, h8, g1, g2, g3⟩
            have v1 := g3.cell v1 (fun h => h.elim HNF.out.1 HNF.out.2)
            have hB8 := HB1.out.step (keepsA _ _ _) g1 g2 g3
            have HREL := Lib.hid (And.intro h8 hB8)
            have c8 : w7.cell? ⟨hb, zn, none⟩ = some (.bool true) := by
              obtain ⟨S, ⟨hat, hsb⟩, hS⟩ := hB8
              rw [bos_at hat (i := zn) (by rw [HH.out.hl]; exact e2), e3]
            clear h8 g1 g2 g3 hB8 HB1 HO1 HC
            go_wp2_with fail
            go_meet
            exact ⟨rfl, F7, b7, G7, m, _, HREL.out.1, HH7.out, by omega, HREL.out.2⟩
          · rw [rel_no hE] at HC
            have dE : (relE b xz == 0) = false := by rw [beq_eq_false_iff_ne]; exact hE
            clear hE
            generalize relE b xz = E at *
            go_wp2_with fail
            refine HC.out.mono ?_
            rintro e w7 ⟨rfl, F7, G7, h7, g1, g2, g3⟩
            have HREL := Lib.hid (And.intro h7 (HB1.out.step (keepsA _ _ _) g1 g2 g3))
            clear h7 g1 g2 g3 HC HB1 HO1
            go_wp2_with fail
            go_meet
            exact ⟨rfl, F7, b, G7, m, hs, HREL.out.1, HH.out, by omega, HREL.out.2⟩
        by_cases k4 : xk = 4
        · subst k4
          have HC := Lib.hid (HO1.out.reset HA.out hd6)
          have HD4 : Hid ((rstM b m).done ≤ j + 1) := Lib.hid (by have := done_rst b m; omega)
          by_cases hE : rstE b m = 0
          · obtain ⟨zn, e1, e2, e3, e4⟩ := he_rst HH.out HO1.out.tb.wt hE
            rw [hE, e1] at HC
            obtain ⟨b7, hb7⟩ : ∃ x, rstT b m = x := ⟨_, rfl⟩
            obtain ⟨m7, hm7⟩ : ∃ x, rstM b m = x := ⟨_, rfl⟩
            rw [hb7, hm7] at HC
            rw [hb7] at e4
            rw [hm7] at HD4
            have HH7 := Lib.hid e4
            clear hE hb7 e4 hm7 e1
            go_wp2_with fail
            refine HC.out.mono ?_
            rintro e w7 ⟨rfl, F7, G7, h8, g1, g2, g3⟩
            have hB8 := HB1.out.step (keepsA _ _ _) g1 g2 g3
            obtain ⟨S, ⟨hat, hsb⟩, hS⟩ := hB8
            have c8 := bos_at hat (i := zn) (by rw [HH.out.hl]; exact e2)
            have f8 := hat.frozen zn
            have fs : Fr (One hb) w7 (w7.setCell ⟨hb, zn, none⟩ (.bool false)) := (Fr.refl (One hb) w7).setCell (p := ⟨hb, zn, none⟩) (fun _ => (rfl : hb = hb)) _
            have hS1 : ∀ x, One hb x → ¬ F7 x ∧ ¬ G7 x ∧ W.heap.size ≤ x ∧ x < w7.heap.size := fun x hx => by
              obtain rfl : x = hb := hx
              exact hS x hsb
            have HREL : Hid (Own2 D T W (w7.setCell ⟨hb, zn, none⟩ (.bool false)) t F7 b7 d G7 m7 ∧ Bes (AtS hb 4 (bos (hs.set zn false))) W (w7.setCell ⟨hb, zn, none⟩ (.bool false)) F7 G7) := Lib.hid ⟨h8.turnS HM.out HA.out fs hS1, One hb, ⟨bos_set hat zn false, rfl⟩, fun x hx => by
              obtain ⟨s1, s2, s3, s4⟩ := hS1 x hx
              exact ⟨s1, s2, s3, by simpa [World.setCell] using s4⟩⟩
            rw [e3] at c8
            clear h8 g1 g2 g3 hat hsb hS fs hS1 HB1 HO1 HC
            go_wp2_with fail
            go_meet
            exact ⟨rfl, F7, b7, G7, m7, _, HREL.out.1, HH7.out, HD4.out, HREL.out.2⟩
          · rw [rst_no hE] at HC
            have dE : (rstE b m == 0) = false := by rw [beq_eq_false_iff_ne]; exact hE
            clear hE
            generalize rstE b m = E at *
            go_wp2_with fail
            refine HC.out.mono ?_
            rintro e w7 ⟨rfl, F7, G7, h7, g1, g2, g3⟩
            have HREL := Lib.hid (And.intro h7 (HB1.out.step (keepsA _ _ _) g1 g2 g3))
            clear h7 g1 g2 g3 HC HB1 HO1
            go_wp2_with fail
            go_meet
            exact ⟨rfl, F7, b, G7, _, hs, HREL.out.1, HH.out, HD4.out, HREL.out.2⟩
        have n1 : (xk == 1) = false := by rw [beq_eq_false_iff_ne]; exact k1
        have n2 : (xk == 2) = false := by rw [beq_eq_false_iff_ne]; exact k2
        have n3 : (xk == 3) = false := by rw [beq_eq_false_iff_ne]; exact k3
        have n4 : (xk == 4) = false := by rw [beq_eq_false_iff_ne]; exact k4
        clear k1 k2 k3 k4
        go_wp2_with fail
        go_meet
        exact ⟨rfl, F, b, G, m, hs, HO1.out, HH.out, by omega, HB1.out⟩
      case rest =>
        clear HO1 HB1 HH hd6 HNF HWF v0 v1 v2 q0 q1 q2 hwv hdn
        obtain ⟨rfl, F6, b6, G6, m6, hs6, h8, hH8, hd8, hB8⟩ := hcut
        have HO := Lib.hid h8
        have HB := Lib.hid hB8
        have HH := Lib.hid hH8
        have hZ64 := HZ.out.2
        have HBL : Hid (∀ k, k ≤ 7 → belT b6 k ≤ Z) := Lib.hid fun k _ => by
          have : belT b6 k ≤ b6.r.length := List.countP_le_length
          rw [HH.out.l] at this
          exact this
        have HBA : Hid (belT b6 7 = Z) := Lib.hid (by rw [bel_all HO.out.tb.wt, HH.out.l])
        have hcq := count_queue HO.out.tb.wt
        obtain ⟨n, hn⟩ : ∃ n, b6.q.length = n := ⟨_, rfl⟩
        rw [hn] at hcq
        have HQU := Lib.hid (fun (w : World) (F G : Nat → Prop) (h : Own2 D T W w t F b6 d G m6) => by
          have := h.queue HM.out HA.out
          unfold IntsRet at this
          rw [hn] at this
          exact this)
        have HC6 := Lib.hid (fun (w : World) (F G : Nat → Prop) (h : Own2 D T W w t F b6 d G m6) => by
          have := h.count HM.out HA.out (x := 6) (by decide)
          rw [hcq] at this
          exact this)
        have hn64 : n ≤ 64 := by rw [← hn]; exact wt_q HO.out.tb.wt
        have HRQ : Hid (∀ z ∈ b6.q, roleT b6 ((z : Nat) : Int) = 6 ∧ z < 64) := Lib.hid fun z hz => role_queue HO.out.tb.wt hz
        have HAP : Hid (∀ i j (hi : i < b6.q.length) (hj : j < i), ((b6.q[j] : Nat) : Int) ≠ ((b6.q[i] : Nat) : Int)) := Lib.hid fun i j hi hj => queue_apart HO.out.tb.wt hi hj
        have HNQ := Lib.hid hn
        have dn : ((n : Int) == (n : Int)) = true := by simp
        have dZ : ((Z : Int) == (Z : Int)) = true := by simp
        clear h8 hH8 hB8 hn hcq d1
        go_wp2_with fail
        go_loopw [14, 137] (fun tot i wq => ∃ (k : Nat) (F : Nat → Prop) (G : Nat → Prop), i = .int .i64 k ∧ k ≤ 7 ∧ tot = .int .i64 ((belT b6 k : Nat) : Int) ∧ Own2 D T W wq t F b6 d G m6 ∧ Bes (AtS hb 4 (bos hs6)) W wq F G) (fun _ i _ => 7 - (intOf i).toNat)
        case atStart => exact ⟨0, F6, G6, rfl, Nat.zero_le _, by rw [bel_zero]; rfl, HO.out, HB.out⟩
        case round =>
          clear HO HB
          obtain ⟨k, F7, G7, rfl, hk, rfl, hO, hB⟩ := hrel
          have HO := Lib.hid hO
          have HB := Lib.hid hB
          clear hO hB
          by_cases h2 : k < 7
          · have d1 : decide ((k : Int) < 7) = true := by rw [decide_eq_true_eq]; omega
            have hb0 := HBL.out k (by omega)
            have hb1 := HBL.out (k + 1) (by omega)
            have hsu := bel_succ b6 k
            have HC := Lib.hid (HO.out.count HM.out HA.out (x := (k : Int)) (wf_small (by omega) (by omega)))
            obtain ⟨B0, hB0⟩ : ∃ x, belT b6 k = x := ⟨_, rfl⟩
            obtain ⟨B1, hB1⟩ : ∃ x, belT b6 (k + 1) = x := ⟨_, rfl⟩
            obtain ⟨C0, hC0⟩ : ∃ x, countT b6 (k : Int) = x := ⟨_, rfl⟩
            rw [hB0] at hb0
            rw [hB1] at hb1
            rw [hB0, hB1, hC0] at hsu
            rw [hC0] at HC
            rw [hB0]
            have HB1 := Lib.hid hB1
            have HSU := Lib.hid hsu
            have hC1 : C0 ≤ 64 := by omega
            clear hB0 hB1 hC0 hsu hb1
            go_wp2_with fail
            refine HC.out.mono ?_
            rintro e w9 ⟨rfl, F9, G9, h9, g1, g2, g3⟩
            have HREL := Lib.hid (And.intro h9 (HB.out.step (keepsA _ _ _) g1 g2 g3))
            clear h9 g1 g2 g3 HC HO HB
            go_wp2_with fail
            go_roundw
            case rel => exact ⟨k + 1, F9, G9, by simp, by omega, by rw [HB1.out, ← HSU.out]; simp, HREL.out.1, HREL.out.2⟩
            case measure => simp [intOf]; omega
          · obtain rfl : k = 7 := by omega
            rw [HBA.out]
            have d1 : decide ((7 : Int) < 7) = false := by decide
            have HQ := Lib.hid (HQU.out _ _ _ HO.out)
            clear HQU HO
            go_wp2_with fail
            refine HQ.out.mono ?_
            rintro e w9 ⟨⟨qa, qc, rfl, hq1, hq2, hq3, hq4⟩, hO9⟩
            have HB9 := Lib.hid (HB.out.quiet (keepsA _ _ _) hq4)
            have HI9 := Lib.hid hq3
            have HO9 := Lib.hid hO9
            have HC := Lib.hid ((hO9.tb.count HA.out (x := 6) (by decide)))
            have hc6 : countT b6 6 = n := by rw [count_queue hO9.tb.wt, HNQ.out]
            rw [hc6] at HC
            unfold maxLen at hq2
            clear hq3 hq4 hO9 HQ HB hc6 HC6
            go_wp2_with fail
            refine HC.out.mono ?_
            rintro e w10 ⟨rfl, _, f10⟩
            have HOa := Lib.hid (HO9.out.keep HM.out HA.out f10)
            have HBa := Lib.hid (HB9.out.quiet (keepsA _ _ _) f10)
            have HIa := Lib.hid (HI9.out.keep f10)
            clear f10 HC HO9 HB9 HI9
            go_wp2_with fail
            clear d1 dn
            go_loopw [160] (fun i wq => ∃ (k : Nat), i = .int .i64 k ∧ k ≤ n ∧ Own2 D T W wq t F7 b6 d G7 m6 ∧ Bes (AtS hb 4 (bos hs6)) W wq F7 G7 ∧ Ints wq qa (b6.q.map fun (x : Nat) => (x : Int))) (fun i _ => n - (intOf i).toNat)
            case atStart => exact ⟨0, rfl, Nat.zero_le _, HOa.out, HBa.out, HIa.out⟩
            case round =>
              clear HOa HBa HIa
              obtain ⟨k3, rfl, hk3, hO, hB, hI⟩ := hrel
              have HO := Lib.hid hO
              have HB := Lib.hid hB
              have HI := Lib.hid hI
              clear hO hB hI
              by_cases h3 : k3 < n
              · have d1 : decide ((k3 : Int) < (n : Int)) = true := by rw [decide_eq_true_eq]; omega
                obtain ⟨qb, qo, rfl, hx⟩ := HI.out (by rw [List.length_map, HNQ.out]; omega)
                have hkl : k3 < b6.q.length := by rw [HNQ.out]; exact h3
                obtain ⟨zz, hzz⟩ : ∃ z, b6.q[k3] = z := ⟨_, rfl⟩
                have hq0 := hx k3 (zz : Int) (by rw [List.getElem?_map, List.getElem?_eq_getElem hkl, hzz]; rfl)
                have q0 := hq0.1
                have hz0 := (HRQ.out zz (by rw [← hzz]; exact List.getElem_mem hkl)).1
                have HC := Lib.hid (HO.out.tb.role HA.out (z := (zz : Int)) hq0.2)
                rw [hz0] at HC
                have HAZ : Hid (∀ j y, j < k3 → b6.q[j]? = some y → ((y : Nat) : Int) ≠ (zz : Int)) := Lib.hid fun j y hj hy => by
                  have hy2 := (List.getElem?_eq_some_iff.1 hy).2
                  rw [← hzz, ← hy2]
                  exact HAP.out k3 j hkl hj
                have hone : ∀ w : World, (sizeOf 3).run Try.prog w = .ok 1 w := fun w => by
                  obtain ⟨i0, hi0, _, hz1, _⟩ := info_parts infoI64
                  simp [sizeOf, typeInfo, hi0, hz1, Result.andThen]
                have hcutk : ∀ w : World, (Instr.slice 29 (.slice (some ⟨qb, qo, none⟩) n qc) none (some (.int .i64 (k3 : Int))) none).run Try.prog w = .ok (.slice (some ⟨qb, qo, none⟩) k3 qc) w := fun w => cut_hi (P := Try.prog) Try.underlying29 hone (some ⟨qb, qo, none⟩) n qc k3 (by omega) w
                clear hx hzz hq0 hz0 hone
                go_wp2_with fail
                refine HC.out.mono ?_
                rintro e w11 ⟨rfl, _, f11⟩
                have HOb := Lib.hid (HO.out.keep HM.out HA.out f11)
                have HBb := Lib.hid (HB.out.quiet (keepsA _ _ _) f11)
                have HIb := Lib.hid (HI.out.keep f11)
                clear f11 HC HO HB HI q0 hkl
                go_wp2_with fail
                clear d1 hcutk
                go_loopw [173] (fun i wp => ∃ (k : Nat), i = .int .i64 k ∧ k ≤ k3 ∧ Own2 D T W wp t F7 b6 d G7 m6 ∧ Bes (AtS hb 4 (bos hs6)) W wp F7 G7 ∧ Ints wp (some ⟨qb, qo, none⟩) (b6.q.map fun (x : Nat) => (x : Int))) (fun i _ => k3 - (intOf i).toNat)
                case atStart => exact ⟨0, rfl, Nat.zero_le _, HOb.out, HBb.out, HIb.out⟩
                case round =>
                  clear HOb HBb HIb
                  obtain ⟨k4, rfl, hk4, hO, hB, hI⟩ := hrel
                  have HO := Lib.hid hO
                  have HB := Lib.hid hB
                  have HI := Lib.hid hI
                  clear hO hB hI
                  by_cases h4 : k4 < k3
                  · have d1 : decide ((k4 : Int) < (k3 : Int)) = true := by rw [decide_eq_true_eq]; omega
                    obtain ⟨qb', qo', heq, hx⟩ := HI.out (by rw [List.length_map, HNQ.out]; omega)
                    simp only [Option.some.injEq, Addr.mk.injEq, and_true] at heq
                    obtain ⟨rfl, rfl⟩ := heq
                    have hkl : k4 < b6.q.length := by rw [HNQ.out]; omega
                    obtain ⟨yy, hyy⟩ : ∃ z, b6.q[k4] = z := ⟨_, rfl⟩
                    have q0 := (hx k4 (yy : Int) (by rw [List.getElem?_map, List.getElem?_eq_getElem hkl, hyy]; rfl)).1
                    have hne := HAZ.out k4 yy h4 (by rw [List.getElem?_eq_getElem hkl, hyy])
                    have dy : ((yy : Int) == (zz : Int)) = false := by rw [beq_eq_false_iff_ne]; exact hne
                    clear hx hyy hne hkl
                    go_wp2_with fail
                    go_roundw
                    case rel => exact ⟨k4 + 1, by simp, by omega, HO.out, HB.out, HI.out⟩
                    case measure => simp [intOf]; omega
                  · obtain rfl : k4 = k3 := by omega
                    have d1 : decide ((k4 : Int) < (k4 : Int)) = false := by simp
                    go_wp2_with fail
                    go_roundw
                    case rel => exact ⟨k4 + 1, by simp, by omega, HO.out, HB.out, HI.out⟩
                    case measure => simp [intOf]; omega
              · obtain rfl : k3 = n := by omega
                have d1 : decide ((k3 : Int) < (k3 : Int)) = false := by simp
                clear HI
                go_wp2_with fail
                clear d1
                go_loopw [183] (fun i wq => ∃ (k : Nat), i = .int .i64 k ∧ k ≤ Z ∧ Own2 D T W wq t F7 b6 d G7 m6 ∧ Bes (AtS hb 4 (bos hs6)) W wq F7 G7) (fun i _ => Z - (intOf i).toNat)
                case atStart => exact ⟨0, rfl, Nat.zero_le _, HO.out, HB.out⟩
                case round =>
                  clear HO HB
                  obtain ⟨k5, rfl, hk5, hO, hB⟩ := hrel
                  have HO := Lib.hid hO
                  have HB := Lib.hid hB
                  clear hO hB
                  by_cases h5 : k5 < Z
                  · have d1 : decide ((k5 : Int) < (Z : Int)) = true := by rw [decide_eq_true_eq]; omega
                    have hrl := he_role HH.out h5
                    obtain ⟨S, ⟨hat, hsb⟩, hS⟩ := HB.out
                    have c8 := bos_at hat (i := k5) (by rw [HH.out.hl]; exact h5)
                    rw [hrl] at c8
                    have HRO := Lib.hid ((HO.out.keep HM.out HA.out (Fr.refl No _).drew).tb.role HA.out (z := (k5 : Int)) (wf_small (by omega) (by omega)))
                    have HOd := Lib.hid (HO.out.keep HM.out HA.out (Fr.refl No _).drew)
                    have HBd := Lib.hid (HB.out.quiet (keepsA _ _ _) (Fr.refl No _).drew)
                    generalize roleT b6 (k5 : Int) = RO at *
                    clear hrl hat hsb hS HO HB S
                    rcases Bool.eq_false_or_eq_true (RO == 0) with hz0 | hz0
                    · simp only [hz0, Bool.not_true] at c8
                      go_wp2_with fail
                      go_region_held3 (fun w' => w'.cell? ⟨hb, k5, none⟩ = some (.bool false)) (first | assumption | go_keep)
                        (first
                          | (go_at_call 26; refine HRO.out.mono ?_; rintro e w12 ⟨rfl, _, f12⟩
                             have c8 := f12.cell c8 (fun h => h)
                             have HF12 := Lib.hid f12
                             clear f12))
                      have HREL := Lib.hid (And.intro (HOd.out.keep HM.out HA.out HF12.out) (HBd.out.quiet (keepsA _ _ _) HF12.out))
                      clear HOd HBd c8
                      go_wp2_with fail
                      go_roundw
                      case rel => exact ⟨k5 + 1, by simp, by omega, HREL.out.1, HREL.out.2⟩
                      case measure => simp [intOf]; omega
                    · simp only [hz0, Bool.not_false] at c8
                      have hn1 : (RO != 0) = true := by unfold bne; rw [hz0]; rfl
                      have hn2 : ¬ RO = 0 := by intro h; rw [h] at hz0; cases hz0
                      have hn3 : decide (RO = 0) = false := decide_eq_false hn2
                      go_wp2_with fail
                      go_region_held3 (fun w' => w'.cell? ⟨hb, k5, none⟩ = some (.bool true)) (first | assumption | go_keep)
                        (first
                          | (go_at_call 26; refine HRO.out.mono ?_; rintro e w12 ⟨rfl, _, f12⟩
                             have c8 := f12.cell c8 (fun h => h)
                             have HF12 := Lib.hid f12
                             clear f12))
                      have HREL := Lib.hid (And.intro (HOd.out.keep HM.out HA.out HF12.out) (HBd.out.quiet (keepsA _ _ _) HF12.out))
                      clear HOd HBd c8
                      go_wp2_with fail
                      go_roundw
                      case rel => exact ⟨k5 + 1, by simp, by omega, HREL.out.1, HREL.out.2⟩
                      case measure => simp [intOf]; omega
                  · obtain rfl : k5 = Z := by omega
                    have d1 : decide ((k5 : Int) < (k5 : Int)) = false := by simp
                    go_wp2_with fail
                    go_roundw
                    case rel => exact ⟨j + 1, F7, b6, G7, m6, hs6, by simp, by omega, HO.out, HH.out, hd8, HB.out⟩
                    case measure => simp [intOf]; omega
    · obtain rfl : j = N := by omega
      have d1 : decide ((j : Int) < (j : Int)) = false := by simp
      go_wp2_with fail
      refine (awake_c HA.out _).mono ?_
      rintro e w3 ⟨rfl, f3⟩
      have HF3 := Lib.hid (HO.out.fr.trans f3)
      clear f3
      go_wp2_with fail
      go_ret
      exact ⟨rfl, FIN.out _ HF3.out⟩
end
end Go.Proofs.Ytdhkelgmcobhcaa
