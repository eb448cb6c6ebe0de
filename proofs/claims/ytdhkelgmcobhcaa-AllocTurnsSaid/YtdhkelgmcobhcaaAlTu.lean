/-
  Layer 8: the walk of AllocTurns, over the contracts of a table and of a device (written by al_turns.py).
-/
import Derived.Test.YtdhkelgmcobhcaaAlF
import Derived.Test.YtdhkelgmcobhcaaAlG
namespace Go.Proofs.Ytdhkelgmcobhcaa
set_option linter.unusedVariables false
open Go.RowKit

section
variable {D : World → Nat → (Nat → Prop) → Dev → Prop} {T : World → Nat → (Nat → Prop) → Tb → Prop}
set_option maxRecDepth 20000 in
set_option maxHeartbeats 16000000 in
theorem allocTurns_walk (M : ZoneOK D) (A : AllocOK D T) (W : World) (z : Int) (wz : wf64 z) (a : Option Addr) (cap : Nat) (l : List Int) (hc : l.length ≤ cap) (hm : cap ≤ maxLen) (rd : Ints W a l) :
    Calls Try.prog 5 #[.int .i64 z, .slice a l.length cap] W fun e w' => e = .returned (.bool true) ∧ Below W.heap.size W w' := by
  have HM := Lib.hid M
  have HA := Lib.hid A
  have HNEW := Lib.hid (newT_c A z W wz W (Fr.refl _ _))
  have HDEV := Lib.hid (fun (w : World) (f : Fr No W w) => device_c M z w wz W f)
  have fin : ∀ w' : World, Fr No W w' → Below W.heap.size W w' := fun w' f => f.below (Nat.le_refl _) (fun _ h => h.elim)
  have FIN := Lib.hid fin
  have hzb := wf_out wz
  have HRD := Lib.hid rd
  unfold maxLen at hm
  obtain ⟨N, hN⟩ : ∃ N, l.length = N := ⟨_, rfl⟩
  rw [hN] at hc
  rw [hN]
  have HN := Lib.hid hN
  clear fin rd wz hN
  go_enter Try.func5, Try.ntmps5
  go_wp2_with fail
  refine HNEW.out.mono ?_
  rintro e w1 ⟨f1, ⟨hz, rfl⟩ | ⟨hz, t, F1, rfl, h1, _⟩⟩
  · have he : ∀ w : World, (binOp .eql 23 (.pointer none) (.pointer none)).run Try.prog w = .ok (.bool true) w := fun _ => rfl
    have he2 : ∀ w : World, (binOp .neq 23 (.pointer none) (.pointer none)).run Try.prog w = .ok (.bool false) w := fun _ => rfl
    have HF1 := Lib.hid f1
    clear f1 HNEW
    go_wp2_with fail
    refine (HDEV.out _ HF1.out).mono ?_
    rintro e w2 ⟨f2, ⟨_, rfl⟩ | ⟨hz2, _⟩⟩
    · have HF2 := Lib.hid (HF1.out.trans f2)
      clear f2 HDEV
      by_cases h1 : z < 1
      · have d1 : decide (z < 1) = true := decide_eq_true h1
        clear hz h1 hzb
        go_wp2_with fail
        refine (awake_c HA.out _).mono ?_
        rintro e w3 ⟨rfl, f3⟩
        have HF3 := Lib.hid (HF2.out.trans f3)
        clear f3
        go_wp2_with fail
        go_ret
        exact ⟨rfl, FIN.out _ HF3.out⟩
      · have d1 : decide (z < 1) = false := decide_eq_false h1
        have d2 : decide ((64 : Int) < z) = true := by rw [decide_eq_true_eq]; omega
        clear hz h1 hzb
        go_wp2_with fail
        refine (awake_c HA.out _).mono ?_
        rintro e w3 ⟨rfl, f3⟩
        have HF3 := Lib.hid (HF2.out.trans f3)
        clear f3
        go_wp2_with fail
        go_ret
        exact ⟨rfl, FIN.out _ HF3.out⟩
    · exact absurd hz2 hz
  have he : ∀ w : World, (binOp .eql 23 (.pointer (some ⟨t, 0, none⟩)) (.pointer none)).run Try.prog w = .ok (.bool false) w := fun _ => rfl
  have he2 : ∀ w : World, (binOp .neq 23 (.pointer (some ⟨t, 0, none⟩)) (.pointer none)).run Try.prog w = .ok (.bool true) w := fun _ => rfl
  have H1 := Lib.hid h1
  clear h1 f1 HNEW hzb
  obtain ⟨Z, rfl⟩ : ∃ Z : Nat, z = (Z : Int) := ⟨z.toNat, by omega⟩
  go_wp2_with fail
  refine (HDEV.out _ H1.out.fr).mono ?_
  rintro e w2 ⟨f2, ⟨hz2, _⟩ | ⟨_, d, G1, rfl, h2, h3⟩⟩
  · exact absurd hz hz2
  have he3 : ∀ w : World, (binOp .eql 26 (.pointer (some ⟨d, 0, none⟩)) (.pointer none)).run Try.prog w = .ok (.bool false) w := fun _ => rfl
  have HO := Lib.hid (Own2.start A H1.out f2 h2 h3 (by simp [newM, newT]))
  have HZ : Hid (1 ≤ Z ∧ Z ≤ 64) := Lib.hid (by omega)
  clear H1 f2 h2 h3 HDEV hz
  by_cases hl0 : 100 < N
  · have d1 : decide ((100 : Int) < (N : Int)) = true := by rw [decide_eq_true_eq]; omega
    go_wp2_with fail
    refine (awake_c HA.out _).mono ?_
    rintro e w3 ⟨rfl, f3⟩
    have HF3 := Lib.hid (HO.out.fr.trans f3)
    clear f3
    go_wp2_with fail
    go_ret
    exact ⟨rfl, FIN.out _ HF3.out⟩
  have d1 : decide ((100 : Int) < (N : Int)) = false := by rw [decide_eq_false_iff_not]; omega
  go_wp2_with fail
  clear d1
  go_loopw [50] (fun i wr => ∃ (k : Nat) (F : Nat → Prop) (b : Tb) (G : Nat → Prop), i = .int .i64 k ∧ k ≤ Z ∧ Own2 D T W wr t F b d G (newM (Z : Int) 16 (Z : Int)) ∧ TkB b k Z) (fun i _ => Z - (intOf i).toNat)
  case atStart => exact ⟨0, F1, _, G1, rfl, Nat.zero_le _, HO.out, tk_new Z⟩
  case round =>
    clear HO
    obtain ⟨k, F, b, G, rfl, hk, hO, hT⟩ := hrel
    have HO := Lib.hid hO
    have HT := Lib.hid hT
    have hZ := HZ.out
    clear hO hT
    by_cases h1 : k < Z
    · have d1 : decide ((k : Int) < (Z : Int)) = true := by rw [decide_eq_true_eq]; omega
      have hox : okRole (1 + (k : Int) % 5) = true := okRole_iff.2 (by omega)
      have HC := Lib.hid (HO.out.take HM.out HA.out (x := 1 + (k : Int) % 5) (wf_small (by omega) (by omega)))
      obtain ⟨e1, e2, e3⟩ := tk_next HT.out h1 hox
      rw [e1, e2] at HC
      have HT3 := Lib.hid e3
      generalize takT b (1 + (k : Int) % 5) = b2 at *
      have dk : ((k : Int) == (k : Int)) = true := by simp
      clear e1 e2 e3 hox
      go_wp2_with fail
      refine HC.out.mono ?_
      rintro e w2 ⟨rfl, F2, G2, h2, _, _, _⟩
      have H2 := Lib.hid h2
      clear h2 HC
      go_wp2_with fail
      go_roundw
      case rel => exact ⟨k + 1, F2, b2, G2, by simp, by omega, H2.out, HT3.out⟩
      case measure => simp [intOf]; omega
    · obtain rfl : k = Z := by omega
      have d1 : decide ((k : Int) < (k : Int)) = false := by simp
      have hnz := tk_nz HT.out
      have hq0 := HT.out.q
      have HNZ := Lib.hid hnz
      have HQ0 := Lib.hid hq0
      clear hnz hq0 HT
      go_wp2_with fail
      clear d1
      go_loopw [10, 71] (fun wv i wq => ∃ (j : Nat) (F2 : Nat → Prop) (b2 : Tb) (G2 S : Nat → Prop), i = .int .i64 j ∧ j ≤ N ∧ Own2 D T W wq t F2 b2 d G2 (newM (k : Int) 16 (k : Int)) ∧ NzB b2 k ∧ RowI wq S wv (b2.q.map fun (x : Nat) => (x : Int)) ∧ (∀ x, S x → ¬ F2 x ∧ ¬ G2 x ∧ W.heap.size ≤ x ∧ x < wq.heap.size)) (fun _ i _ => N - (intOf i).toNat)
      case atStart => exact ⟨0, F, b, G, No, rfl, Nat.zero_le _, HO.out, HNZ.out, by rw [HQ0.out]; exact RowI.nil _ _, fun x h => h.elim⟩
      case round =>
        clear HO HNZ HQ0
        obtain ⟨j, F2, b2, G2, S, rfl, hj, hO, hN2, hrow, hS⟩ := hrel
        have HO := Lib.hid hO
        have HNZ := Lib.hid hN2
        have HS := Lib.hid hS
        have HROW := Lib.hid hrow
        clear hO hN2 hS
        by_cases h2 : j < N
        · have d1 : decide ((j : Int) < (N : Int)) = true := by rw [decide_eq_true_eq]; omega
          obtain ⟨bb, o, rfl, hx⟩ := HRD.out (by rw [HN.out]; omega)
          obtain ⟨y, hy⟩ : ∃ y, l[j]? = some y := ⟨_, List.getElem?_eq_getElem (by rw [HN.out]; exact h2)⟩
          have q0 := HO.out.fr.cell (hx j y hy).1 (fun h => h)
          have HC := Lib.hid (HO.out.release HM.out HA.out (hx j y hy).2)
          clear hx hy
          obtain ⟨ra, rc, rfl, _, _, _⟩ := hrow.form
          clear hrow
          by_cases hE : relE b2 y = 0
          · obtain ⟨e1, e2, e3⟩ := nz_rel HNZ.out hE
            rw [hE] at HC
            have HL2 := Lib.hid e2
            have HNZ2 := Lib.hid e1
            have HY := Lib.hid e3
            clear hE e1 e2 e3
            generalize relT b2 y = b3 at *
            go_wp2_with fail
            refine HC.out.mono ?_
            rintro e w2 ⟨rfl, F3, G3, h3, g1, g2, g3⟩
            have H3 := Lib.hid h3
            have hrow3 := HROW.out.keep g3 (fun x hx hh => hh.elim (HS.out x hx).1 (HS.out x hx).2.1)
            have hS3 : ∀ x, S x → ¬ F3 x ∧ ¬ G3 x ∧ W.heap.size ≤ x ∧ x < w2.heap.size := fun x hx => by
              obtain ⟨s1, s2, s3, s4⟩ := HS.out x hx
              have := g3.size
              exact ⟨fun h => (g1 x h).elim s1 (fun h => by omega), fun h => (g2 x h).elim s2 (fun h => by omega), s3, by omega⟩
            obtain ⟨v4, w4, hrun, hrow4, hf4⟩ := hrow3.push (fun x hx => (hS3 x hx).2.2.2) y (by
              rw [List.length_map]
              have h5 := HO.out.tb.wt.nd
              have h6 : ∀ x ∈ b2.q, x ∈ List.range 64 := fun x hx => by
                have h7 := ((HO.out.tb.wt.qr x).1 hx).1
                have h8 := HO.out.tb.wt.n64
                exact List.mem_range.2 (by omega)
              have h7 := List.Nodup.length_le_of_subset h5 h6
              rw [List.length_range] at h7
              omega)
            have h4 : Own2 D T W w4 t F3 b3 d G3 (newM (k : Int) 16 (k : Int)) := by
              have hsw : ∀ x, S x → W.heap.size ≤ x := fun x hx => (hS3 x hx).2.2.1
              exact ⟨H3.out.tb.keepS HA.out hf4 (fun x hf hs => (hS3 x hs).1 hf) hsw, ⟨HM.out.keep H3.out.dv.dv hf4 (fun x hg hs => (hS3 x hs).2.1 hg), H3.out.dv.new, H3.out.dv.fr.then_ hf4 (fun x hx hs => absurd (hsw x hs) (by omega)), H3.out.dv.wf⟩, H3.out.dj, H3.out.len⟩
            have H4 := Lib.hid h4
            have HRUN := Lib.hid hrun
            have HREL : Hid (RowI w4 (Gr S w2 w4) v4 (b3.q.map fun (x : Nat) => (x : Int)) ∧ ∀ x, Gr S w2 w4 x → ¬ F3 x ∧ ¬ G3 x ∧ W.heap.size ≤ x ∧ x < w4.heap.size) := Lib.hid ⟨by
              rw [HL2.out, List.map_append, List.map_cons, List.map_nil, ← HY.out]
              exact hrow4, fun x hx => by
              have hsz := hf4.size
              rcases hx with hx | hx
              · obtain ⟨s1, s2, s3, s4⟩ := hS3 x hx
                exact ⟨s1, s2, s3, by omega⟩
              · have := H3.out.fr.size
                exact ⟨H3.out.tb.low HA.out x hx.1, H3.out.dv.low HM.out x hx.1, by omega, hx.2⟩⟩
            clear h3 HC g1 g2 g3 hrow3 hS3 hrun hrow4 hf4 h4
            generalize (b2.q.map fun (x : Nat) => (x : Int)).length = ql at *
            go_wp2_with (at_builtin; refine wpList_append_run rfl _ _ 29 rfl rfl rfl HRUN.out ?_)
            go_roundw
            case rel => exact ⟨j + 1, F3, b3, G3, _, by simp, by omega, H4.out, HNZ2.out, HREL.out⟩
            case measure => simp [intOf]; omega
          · rw [rel_no hE] at HC
            have dE : (relE b2 y == 0) = false := by rw [beq_eq_false_iff_ne]; exact hE
            clear hE
            generalize relE b2 y = E at *
            generalize (b2.q.map fun (x : Nat) => (x : Int)).length = ql at *
            go_wp2_with fail
            refine HC.out.mono ?_
            rintro e w2 ⟨rfl, F3, G3, h3, g1, g2, g3⟩
            have H3 := Lib.hid h3
            have HREL : Hid (RowI w2 S (.slice ra ql rc) (b2.q.map fun (x : Nat) => (x : Int)) ∧ ∀ x, S x → ¬ F3 x ∧ ¬ G3 x ∧ W.heap.size ≤ x ∧ x < w2.heap.size) := Lib.hid ⟨HROW.out.keep g3 (fun x hx hh => hh.elim (HS.out x hx).1 (HS.out x hx).2.1), fun x hx => by
              obtain ⟨s1, s2, s3, s4⟩ := HS.out x hx
              have := g3.size
              exact ⟨fun h => (g1 x h).elim s1 (fun h => by omega), fun h => (g2 x h).elim s2 (fun h => by omega), s3, by omega⟩⟩
            clear h3 HC g1 g2 g3
            go_wp2_with fail
            go_roundw
            case rel => exact ⟨j + 1, F3, b2, G3, S, by simp, by omega, H3.out, HNZ.out, HREL.out⟩
            case measure => simp [intOf]; omega
        · obtain rfl : j = N := by omega
          have d1 : decide ((j : Int) < (j : Int)) = false := by simp
          obtain ⟨L, hL⟩ : ∃ L, b2.q.map (fun (x : Nat) => (x : Int)) = L := ⟨_, rfl⟩
          have hLl : b2.q.length = L.length := by rw [← hL, List.length_map]
          have hz64 := HZ.out.2
          have hwf : ∀ x ∈ L, wf64 x := fun x hx => by
            rw [← hL] at hx
            obtain ⟨y, hy, rfl⟩ := List.mem_map.1 hx
            have h7 := ((HO.out.tb.wt.qr y).1 hy).1
            have h8 := HO.out.tb.wt.n64
            exact wf_small (by omega) (by omega)
          have hl64 : L.length ≤ 64 := by
            rw [← hLl]
            have h6 : ∀ x ∈ b2.q, x ∈ List.range 64 := fun x hx => by
              have h7 := ((HO.out.tb.wt.qr x).1 hx).1
              have h8 := HO.out.tb.wt.n64
              exact List.mem_range.2 (by omega)
            have h7 := List.Nodup.length_le_of_subset HO.out.tb.wt.nd h6
            rw [List.length_range] at h7
            omega
          rw [hL] at hrow
          obtain ⟨ra, rc, rfl, hrc, hrm, hints⟩ := hrow.ints hwf
          have HBES : Hid (Bes (fun w S => RowI w S (.slice ra L.length rc) L) W wr F2 G2) := Lib.hid ⟨S, hrow, HS.out⟩
          have HINT := Lib.hid hints
          have HQU := Lib.hid (HO.out.queue HM.out HA.out)
          unfold IntsRet at HQU
          rw [hLl, hL] at HQU
          have HWF := Lib.hid hwf
          have HL := Lib.hid hL
          obtain ⟨ql, hql⟩ : ∃ n, L.length = n := ⟨_, rfl⟩
          have hq1' := hl64
          rw [hql] at hl64 hrc HQU
          rw [hql]
          have HQL := Lib.hid hql
          clear hrow hints hwf hL HROW HS hLl hql hq1'
          go_wp2_with fail
          refine HQU.out.mono ?_
          rintro e w3 ⟨⟨qa, qc, rfl, hq1, hq2, hq3, hq4⟩, hO3⟩
          have HO3 := Lib.hid hO3
          have HI2 := Lib.hid (ints_c qa ra qc rc L L w3 (by rw [HQL.out]; omega) (by rw [HQL.out]; omega) hq3 (HINT.out.keep hq4))
          rw [show sameI L L = true by unfold sameI; simp] at HI2
          have HB3 := Lib.hid (HBES.out.quiet (keepsI _ _) hq4)
          clear hO3 hq3 hq4 HQU HINT HBES HO
          have HI2 := Lib.hid (show Calls _ _ _ _ _ from HI2.out)
          rw [HQL.out] at HI2 HB3
          go_wp2_with fail
          refine HI2.out.mono ?_
          rintro e w4 ⟨rfl, hf4⟩
          have HO4 := Lib.hid (HO3.out.keep HM.out HA.out hf4)
          have HB4 := Lib.hid (HB3.out.quiet (keepsI _ _) hf4)
          clear hf4 HI2 HB3 HO3
          go_wp2_with fail
          clear d1
          go_loopw [91] (fun i wq => ∃ (j : Nat) (F3 : Nat → Prop) (b3 : Tb) (G3 : Nat → Prop) (m : Dev), i = .int .i64 j ∧ j ≤ ql ∧ Own2 D T W wq t F3 b3 d G3 m ∧ NzB b3 k ∧ Calm m ∧ m.zs.length = k ∧ m.done ≤ j ∧ b3.q = b2.q.drop j ∧ Bes (fun w S => RowI w S (.slice ra ql rc) L) W wq F3 G3) (fun i _ => ql - (intOf i).toNat)
          case atStart => exact ⟨0, F2, b2, G2, _, rfl, Nat.zero_le _, HO4.out, HNZ.out, ⟨rfl, rfl⟩, by simp [newM], Nat.le_refl _, rfl, HB4.out⟩
          case round =>
            clear HO4 HNZ HB4
            obtain ⟨i, F3, b3, G3, m, rfl, hi, hO, hN3, hC, hml, hdn, hq, hB⟩ := hrel
            have HO := Lib.hid hO
            have HNZ := Lib.hid hN3
            have HCA := Lib.hid hC
            have HB := Lib.hid hB
            have HDN := Lib.hid hdn
            clear hO hN3 hC
            by_cases h3 : i < ql
            · have d1 : decide ((i : Int) < (ql : Int)) = true := by rw [decide_eq_true_eq]; omega
              have hiq : i < b2.q.length := by
                have := HQL.out
                rw [← HL.out, List.length_map] at this
                omega
              obtain ⟨zq, hzq⟩ : ∃ y, b2.q[i] = y := ⟨_, rfl⟩
              have hq' : b3.q = zq :: b2.q.drop (i + 1) := by rw [hq, List.drop_eq_getElem_cons hiq, hzq]
              have hzl := ((HO.out.tb.wt.qr zq).1 (by rw [hq']; exact List.mem_cons_self ..)).1
              have hz64' := HO.out.tb.wt.n64
              obtain ⟨S3, hrow3, _⟩ := hB
              obtain ⟨ra', rc', hv, _, _, hin⟩ := hrow3.ints HWF.out
              rw [HQL.out] at hv
              simp only [Value.slice.injEq, true_and] at hv
              obtain ⟨rfl, rfl⟩ := hv
              obtain ⟨bb, o, rfl, hx⟩ := hin (by rw [HQL.out]; omega)
              have q0 := (hx i (zq : Int) (by rw [← HL.out, List.getElem?_map, List.getElem?_eq_getElem hiq, hzq]; rfl)).1
              obtain ⟨e1, e2, e3, e4, e5, e6, e7, e8⟩ := nz_rst HNZ.out HO.out.tb.wt hq' HCA.out hml
              have hdd : m.done < 1000000 := by omega
              have HC := Lib.hid (HO.out.reset HA.out hdd)
              rw [e1, e2] at HC
              have HR2 : Hid (Calm (rstM b3 m) ∧ (rstM b3 m).zs.length = k ∧ (rstM b3 m).done ≤ i + 1) := Lib.hid ⟨e3, by rw [len_rstM]; exact hml, by have := done_rst b3 m; omega⟩
              have HWZ := Lib.hid (show wf64 (zq : Int) from wf_small (by omega) (by omega))
              have HEND : Hid (NzB (takT (rstT b3 m) 3) k ∧ (takT (rstT b3 m) 3).q = b2.q.drop (i + 1)) := Lib.hid ⟨e7, e8⟩
              have H456 := Lib.hid (And.intro e4 (And.intro e5 e6))
              clear e1 e2 e3 e4 e5 e6 e7 e8 hq hq' hx hin hrow3 hzl hz64' hdn hdd hiq hzq hml
              generalize rstT b3 m = b4 at *
              generalize rstM b3 m = m4 at *
              have dz : ((zq : Int) == (zq : Int)) = true := by simp
              go_wp2_with fail
              refine HC.out.mono ?_
              rintro e w5 ⟨rfl, F5, G5, h5, g1, g2, g3⟩
              have H5 := Lib.hid h5
              have HB5 := Lib.hid (HB.out.step (keepsI _ _) g1 g2 g3)
              have HRO := Lib.hid (h5.role HM.out HA.out HWZ.out)
              rw [H456.out.1] at HRO
              clear h5 g1 g2 g3 HC
              go_wp2_with fail
              refine HRO.out.mono ?_
              rintro e w6 ⟨rfl, F6, G6, h6, g1, g2, g3⟩
              have HB6 := Lib.hid (HB5.out.step (keepsI _ _) g1 g2 g3)
              have HTK := Lib.hid (h6.take HM.out HA.out (x := 3) (by decide))
              rw [H456.out.2.1, H456.out.2.2] at HTK
              clear h6 g1 g2 g3 HRO H5
              go_wp2_with fail
              refine HTK.out.mono ?_
              rintro e w7 ⟨rfl, F7, G7, h7, g1, g2, g3⟩
              have HB7 := Lib.hid (HB6.out.step (keepsI _ _) g1 g2 g3)
              have H7 := Lib.hid h7
              clear h7 g1 g2 g3 HTK
              go_wp2_with fail
              go_roundw
              case rel => exact ⟨i + 1, F7, _, G7, m4, by simp, by omega, H7.out, HEND.out.1, HR2.out.1, HR2.out.2.1, HR2.out.2.2, HEND.out.2, HB7.out⟩
              case measure => simp [intOf]; omega
            · obtain rfl : i = ql := by omega
              have d1 : decide ((i : Int) < (i : Int)) = false := by simp
              have hq0 : b3.q = [] := by
                have := HQL.out
                rw [← HL.out, List.length_map] at this
                rw [hq, ← this, List.drop_length]
              have HC := Lib.hid (HO.out.reset HA.out (by have := HDN.out; omega))
              rw [show rstE b3 m = 81 by unfold rstE; rw [hq0], show rstT b3 m = b3 by unfold rstT; rw [hq0]] at HC
              have HCN := Lib.hid (fun (w : World) (F G : Nat → Prop) (m : Dev) (h : Own2 D T W w t F b3 d G m) => by
                have := h.count HM.out HA.out (x := 0) (by decide)
                rw [nz_zeros HNZ.out] at this
                exact this)
              generalize rstZ b3 m = rz at *
              clear hq hq0 hml hdn hB
              go_wp2_with fail
              refine HC.out.mono ?_
              rintro e w5 ⟨rfl, F5, G5, h5, _, _, _⟩
              have HC2 := Lib.hid (HCN.out _ _ _ _ h5)
              clear h5 HC HCN
              go_wp2_with fail
              refine HC2.out.mono ?_
              rintro e w6 ⟨rfl, F6, G6, h6, _, _, _⟩
              have H6 := Lib.hid h6.fr
              clear h6 HC2
              go_wp2_with fail
              refine (awake_c HA.out _).mono ?_
              rintro e w7 ⟨rfl, f7⟩
              have HF7 := Lib.hid (H6.out.trans f7)
              clear f7
              go_wp2_with fail
              go_ret
              exact ⟨rfl, FIN.out _ HF7.out⟩
end
end Go.Proofs.Ytdhkelgmcobhcaa
