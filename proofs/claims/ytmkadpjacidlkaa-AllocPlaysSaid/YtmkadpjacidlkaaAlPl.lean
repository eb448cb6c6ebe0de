/-
  Layer 8: the walk of AllocPlays, over the contracts of a table and of a device (written by al_plays.py).
-/
import Derived.Test.YtmkadpjacidlkaaAlJ
import Derived.Test.YtmkadpjacidlkaaAlO
import Derived.Deep.Cut
import Derived.Deep.CutRange
import Derived.Deep.CutBlock
namespace Go.Proofs.Ytmkadpjacidlkaa
set_option linter.unusedVariables false
open Go.RowKit

section
variable {D : World → Nat → (Nat → Prop) → Dev → Prop} {T : World → Nat → (Nat → Prop) → Tb → Prop}
set_option maxRecDepth 20000 in
set_option maxHeartbeats 32000000 in
theorem allocPlays_walk (M : ZoneOK D) (A : AllocOK D T) (W : World) (z : Int) (wz : wf64 z) (a : Option Addr) (cap : Nat) (l : List Op8) (hc : l.length ≤ cap) (hm : cap ≤ maxLen) (rd : Op8s W a l) :
    Calls Try.prog 3 #[.int .i64 z, .slice a l.length cap] W fun e w' => e = .returned (.bool true) ∧ Below W.heap.size W w' := by
  have HM := Lib.hid M
  have HA := Lib.hid A
  have HNEW := Lib.hid (newT_c A z W wz W (Fr.refl _ _))
  have HDEV := Lib.hid (fun (w : World) (f : Fr No W w) => device_c M z w wz W f)
  have fin : ∀ w' : World, Fr No W w' → Below W.heap.size W w' := fun w' f => f.below (Nat.le_refl _) (fun _ h => h.elim)
  have FIN := Lib.hid fin
  have hzb := wf_out wz
  have HRD := Lib.hid rd
  unfold maxLen at hm
  obtain ⟨N, hN⟩ : ∃ N, l.length = N := ⟨_, rfl⟩
  rewrite [hN] at hc
  rw [hN]
  have HN := Lib.hid hN
  clear fin rd wz hN
  go_enter Try.func3, Try.ntmps3
  go_wp2_with fail
  refine HNEW.out.mono ?_
  rintro e w1 ⟨f1, ⟨hz, rfl⟩ | ⟨hz, t, F1, rfl, h1, _⟩⟩
  · have he : ∀ w : World, (binOp .eql 23 (.pointer none) (.pointer none)).run Try.prog w = .ok (.bool true) w := fun _ => rfl
    have HF1 := Lib.hid f1
    clear f1 HNEW HDEV
    by_cases h1 : z < 1
    · have d1 : decide (z < 1) = true := decide_eq_true h1
      clear hz h1 hzb
      go_wp2_with fail
      refine (awake_c HA.out _).mono ?_
      rintro e w3 ⟨rfl, f3⟩
      have HF3 := Lib.hid (HF1.out.trans f3)
      clear f3
      go_wp2_with fail
      go_ret
      exact ⟨rfl, FIN.out _ HF3.out⟩
    · have d1 : decide (z < 1) = false := decide_eq_false h1
      have d2 : decide ((64 : Int) < z) = true := by rw [decide_eq_true_eq]; omega
      clear hz h1 hzb
      go_wp2_with fail
      refine (awake_c HA.out _).mono ?_
      rintro e w3 ⟨rfl, f3⟩
      have HF3 := Lib.hid (HF1.out.trans f3)
      clear f3
      go_wp2_with fail
      go_ret
      exact ⟨rfl, FIN.out _ HF3.out⟩
  have he : ∀ w : World, (binOp .eql 23 (.pointer (some ⟨t, 0, none⟩)) (.pointer none)).run Try.prog w = .ok (.bool false) w := fun _ => rfl
  have he2 : ∀ w : World, (binOp .neq 23 (.pointer (some ⟨t, 0, none⟩)) (.pointer none)).run Try.prog w = .ok (.bool true) w := fun _ => rfl
  have H1 := Lib.hid h1
  clear h1 f1 HNEW hzb
  obtain ⟨Z, rfl⟩ : ∃ Z : Nat, z = (Z : Int) := ⟨z.toNat, by omega⟩
  have dz1 : decide ((Z : Int) < 1) = false := decide_eq_false (by omega)
  have dz2 : decide ((64 : Int) < (Z : Int)) = false := decide_eq_false (by omega)
  go_wp2_with fail
  refine (HDEV.out _ H1.out.fr).mono ?_
  rintro e w2 ⟨f2, ⟨hz2, _⟩ | ⟨_, d, G1, rfl, h2, h3⟩⟩
  · exact absurd hz hz2
  have he3 : ∀ w : World, (binOp .eql 26 (.pointer (some ⟨d, 0, none⟩)) (.pointer none)).run Try.prog w = .ok (.bool false) w := fun _ => rfl
  have he4 : ∀ w : World, (binOp .neq 26 (.pointer (some ⟨d, 0, none⟩)) (.pointer none)).run Try.prog w = .ok (.bool true) w := fun _ => rfl
  have HO := Lib.hid (Own2.start A H1.out f2 h2 h3 (by simp [newM, newT]))
  have HZ : Hid (1 ≤ Z ∧ Z ≤ 64) := Lib.hid (by omega)
  clear H1 f2 h2 h3 HDEV hz dz1 dz2
  by_cases hl0 : 120 < N
  · have d1 : decide ((120 : Int) < (N : Int)) = true := by rw [decide_eq_true_eq]; omega
    go_wp2_with fail
    refine (awake_c HA.out _).mono ?_
    rintro e w3 ⟨rfl, f3⟩
    have HF3 := Lib.hid (HO.out.fr.trans f3)
    clear f3
    go_wp2_with fail
    go_ret
    exact ⟨rfl, FIN.out _ HF3.out⟩
  have d1 : decide ((120 : Int) < (N : Int)) = false := by rw [decide_eq_false_iff_not]; omega
  have hmk := make_ints w2 Z HZ.out.2
  obtain ⟨r1, r2, r3⟩ := rf_new w2 Z
  obtain ⟨gr, hgr⟩ : ∃ gr, w2.heap.size = gr := ⟨_, rfl⟩
  obtain ⟨IL, hIL⟩ : ∃ IL, (ign (List.replicate Z 0)).toArray = IL := ⟨_, rfl⟩
  rewrite [hgr, hIL] at hmk r1 r2 r3
  have HOa := Lib.hid (HO.out.keep HM.out HA.out r2)
  have HB : Hid (Bes (Rf (gr + 1) gr (newT (Z : Int))) W ((w2.alloc (.cells IL 3)).alloc (.cells #[.slice (some ⟨gr, 0, none⟩) Z Z, .slice none 0 0] 31)) F1 G1) := Lib.hid ⟨_, r1, fun x hx => by
    have h1 := HO.out.tb.low HA.out x (by omega)
    have h2 := HO.out.dv.low HM.out x (by omega)
    have h3 := HO.out.fr.size
    exact ⟨h1, h2, by omega, by omega⟩⟩
  have HGR := Lib.hid hgr
  clear r1 r2 r3 HO hIL
  go_wp2_with fail
  clear d1 hmk
  try rw [hgr]
  go_loopw [65] (fun i wr => ∃ (j : Nat) (F : Nat → Prop) (b : Tb) (G : Nat → Prop) (m : Dev), i = .int .i64 j ∧ j ≤ N ∧ Own2 D T W wr t F b d G m ∧ b.r.length = Z ∧ m.done ≤ j ∧ Bes (Rf (gr + 1) gr b) W wr F G) (fun i _ => N - (intOf i).toNat)
  case atStart => exact ⟨0, F1, _, G1, _, rfl, Nat.zero_le _, HOa.out, by simp [newT], Nat.le_refl _, HB.out⟩
  case round =>
    clear HOa HB HGR hgr
    obtain ⟨j, F, b, G, m, rfl, hj, hO, hbl, hdn, hB⟩ := hrel
    have HO := Lib.hid hO
    have HBLN := Lib.hid hbl
    have HB := Lib.hid hB
    clear hO hbl hB
    by_cases h1 : j < N
    · have d1 : decide ((j : Int) < (N : Int)) = true := by rw [decide_eq_true_eq]; omega
      obtain ⟨bb, o, rfl, hx⟩ := HRD.out (by rw [HN.out]; omega)
      obtain ⟨x, hx0⟩ : ∃ x, l[j]? = some x := ⟨_, List.getElem?_eq_getElem (by rw [HN.out]; exact h1)⟩
      have hxj := (hx j x hx0).keep HO.out.fr
      have q0 := hxj.c0
      have q1 := hxj.c1
      have q2 := hxj.c2
      have HWF : Hid (wf64 x.z ∧ wf64 x.n) := Lib.hid ⟨hxj.wz, hxj.wn⟩
      clear hx hx0 hxj
      obtain ⟨xk, xz, xn⟩ := x
      simp only at q0 q1 q2
      have HWF : Hid (wf64 xz ∧ wf64 xn) := Lib.hid HWF.out
      have A1 := At.new wr 33 #[.int .i64 xk, .int .i64 xz, .int .i64 xn]
      have f1 := (Fr.refl No wr).alloc (.cells #[.int .i64 xk, .int .i64 xz, .int .i64 xn] 33)
      have hO1 := HO.out.keep HM.out HA.out f1
      obtain ⟨ob, hob⟩ : ∃ ob, wr.heap.size = ob := ⟨_, rfl⟩
      have hB1 : Bes (RfN ob (gr + 1) gr b) W (wr.alloc (.cells #[.int .i64 xk, .int .i64 xz, .int .i64 xn] 33)) F G := by
        obtain ⟨S, hr, hS⟩ := HB.out
        have hsz := f1.size
        exact ⟨S, ⟨(keepsRf _ _ _).k hr f1 (fun _ _ h => h), fun h => by have := (hS ob h).2.2.2; omega⟩, fun x hx => by
          obtain ⟨s1, s2, s3, s4⟩ := hS x hx
          exact ⟨s1, s2, s3, by omega⟩⟩
      have HNF : Hid (¬ F ob ∧ ¬ G ob) := Lib.hid ⟨HO.out.tb.low HA.out _ (by omega), HO.out.dv.low HM.out _ (by omega)⟩
      obtain ⟨wv, hwv⟩ : ∃ x, wr.alloc (.cells #[.int .i64 xk, .int .i64 xz, .int .i64 xn] 33) = x := ⟨_, rfl⟩
      rewrite [hwv] at A1 hO1 hB1
      rewrite [hob] at A1
      have hoz : ob < wv.heap.size := A1.lt
      have v0 : wv.cell? ⟨ob, 0, none⟩ = some (.int .i64 xk) := A1.cell 0
      have v1 : wv.cell? ⟨ob, 1, none⟩ = some (.int .i64 xz) := A1.cell 1
      have v2 : wv.cell? ⟨ob, 2, none⟩ = some (.int .i64 xn) := A1.cell 2
      have HO1 := Lib.hid hO1
      have HB1 := Lib.hid hB1
      have hd6 : m.done < 1000000 := by omega
      clear A1 f1 hO1 hB1 HO HB
      go_upto_block 2 with fail
      try rw [hob]
      go_cut [10, 11, 12, 13, 14, 15, 16, 17, 18, 19, 65] from 65 to 298 (fun s10 s11 s12 s13 s14 s15 s16 s17 s18 s19 s65 w' => s65 = .int .i64 (j : Int) ∧ s10 = .bool true ∧ ∃ (F6 : Nat → Prop) (b6 : Tb) (G6 : Nat → Prop) (m6 : Dev), Own2 D T W w' t F6 b6 d G6 m6 ∧ b6.r.length = Z ∧ m6.done ≤ j + 1 ∧ Bes (RfN ob (gr + 1) gr b6) W w' F6 G6)
      case first =>
        by_cases k1 : xk = 1
        · as_aux_lemma =>
            subst k1
            have HC := Lib.hid (HO1.out.take HM.out HA.out HWF.out.2)
            have HLB : Hid ((takT b xn).r.length = Z) := Lib.hid (by rw [len_take]; exact HBLN.out)
            have HRC := Lib.hid (fun (w : World) (S : Nat → Prop) (h : Rf (gr + 1) gr b w S) => rfTake_c h HO1.out.tb.wt xn)
            obtain ⟨b7, hb7⟩ : ∃ x, takT b xn = x := ⟨_, rfl⟩
            rewrite [hb7] at HC HLB HRC
            clear hb7
            generalize takE b xn = E at *
            generalize takZ b xn = zz at *
            go_wp2_with fail
            refine HC.out.mono ?_
            rintro e w7 ⟨rfl, F7, G7, h7, g1, g2, g3⟩
            have v2 := g3.cell v2 (fun h => h.elim HNF.out.1 HNF.out.2)
            have hz7 := g3.size
            have hB7 := HB1.out.step (keepsRfN _ _ _ _) g1 g2 g3
            have HC2 := Lib.hid (both_r HM.out HA.out h7 hB7 (by omega) (HRC.out w7))
            clear h7 g1 g2 g3 hB7 HC HO1 HB1 HRC
            go_wp2_with fail
            refine HC2.out.mono ?_
            rintro e w8 ⟨rfl, h8, hB8, _, _⟩
            have HREL := Lib.hid (And.intro h8 hB8)
            have dz : (zz == zz) = true := by simp
            have dE : (E == E) = true := by simp
            clear h8 hB8 HC2
            go_wp2_with fail
            go_meet
            exact ⟨rfl, rfl, F7, b7, G7, m, HREL.out.1, HLB.out, by omega, HREL.out.2⟩
        by_cases k2 : xk = 2
        · as_aux_lemma =>
            subst k2
            have hOd := HO1.out.keep HM.out HA.out (Fr.refl No wv).drew
            have hBd := HB1.out.quiet (keepsRfN _ _ _ _) (Fr.refl No wv).drew
            have HC := Lib.hid (hOd.own HM.out HA.out HWF.out.1 HWF.out.2)
            have HLB : Hid ((ownT b xz xn).r.length = Z) := Lib.hid (by rw [len_own]; exact HBLN.out)
            have HRC := Lib.hid (fun (w : World) (S : Nat → Prop) (h : Rf (gr + 1) gr b w S) => rfOwn_c h xz xn)
            obtain ⟨b7, hb7⟩ : ∃ x, ownT b xz xn = x := ⟨_, rfl⟩
            rewrite [hb7] at HC HLB HRC
            have HBd := Lib.hid hBd
            have hozd : ob < wv.drew.heap.size := hoz
            clear hb7 hBd hOd
            generalize ownE b xz xn = E at *
            go_wp2_with fail
            go_region_held3 (fun w' => w'.cell? ⟨ob, 1, none⟩ = some (.int .i64 xz) ∧ w'.cell? ⟨ob, 2, none⟩ = some (.int .i64 xn)) (first | assumption | go_keep)
              (first
                | (go_at_call 9; refine HC.out.mono ?_; rintro e w7 ⟨rfl, F7, G7, h7, g1, g2, g3⟩
                   have v1 := g3.cell v1 (fun h => h.elim HNF.out.1 HNF.out.2)
                   have v2 := g3.cell v2 (fun h => h.elim HNF.out.1 HNF.out.2)
                   have hz7 := g3.size
                   have HC2 := Lib.hid (both_r HM.out HA.out h7 (HBd.out.step (keepsRfN _ _ _ _) g1 g2 g3) (by omega) (HRC.out w7))
                   clear h7 g1 g2 g3)
                | (go_at_call 10; refine HC2.out.mono ?_; rintro e w8 ⟨rfl, h8, hB8, _, hv8⟩
                   have v1 := hv8 _ _ v1
                   have v2 := hv8 _ _ v2
                   have HREL := Lib.hid (And.intro h8 hB8)
                   clear h8 hB8 hv8))
            have dE : (E == E) = true := by simp
            try (clear hHeld)
            go_wp2_with fail
            go_meet
            exact ⟨rfl, rfl, _, b7, _, m, HREL.out.1, HLB.out, by omega, HREL.out.2⟩
        by_cases k3 : xk = 3
        · as_aux_lemma =>
            subst k3
            have hOd := HO1.out.keep HM.out HA.out (Fr.refl No wv).drew
            have hBd := HB1.out.quiet (keepsRfN _ _ _ _) (Fr.refl No wv).drew
            have HC := Lib.hid (hOd.release HM.out HA.out HWF.out.1)
            have HLB : Hid ((relT b xz).r.length = Z) := Lib.hid (by rw [len_rel]; exact HBLN.out)
            have HRC := Lib.hid (fun (w : World) (S : Nat → Prop) (h : Rf (gr + 1) gr b w S) => rfRelease_c h HO1.out.tb.wt xz)
            obtain ⟨b7, hb7⟩ : ∃ x, relT b xz = x := ⟨_, rfl⟩
            rewrite [hb7] at HC HLB HRC
            have HBd := Lib.hid hBd
            have hozd : ob < wv.drew.heap.size := hoz
            clear hb7 hBd hOd
            generalize relE b xz = E at *
            go_wp2_with fail
            go_region_held3 (fun w' => w'.cell? ⟨ob, 1, none⟩ = some (.int .i64 xz)) (first | assumption | go_keep)
              (first
                | (go_at_call 11; refine HC.out.mono ?_; rintro e w7 ⟨rfl, F7, G7, h7, g1, g2, g3⟩
                   have v1 := g3.cell v1 (fun h => h.elim HNF.out.1 HNF.out.2)
                   have hz7 := g3.size
                   have HC2 := Lib.hid (both_r HM.out HA.out h7 (HBd.out.step (keepsRfN _ _ _ _) g1 g2 g3) (by omega) (HRC.out w7))
                   clear h7 g1 g2 g3)
                | (go_at_call 12; refine HC2.out.mono ?_; rintro e w8 ⟨rfl, h8, hB8, _, hv8⟩
                   have v1 := hv8 _ _ v1
                   have HREL := Lib.hid (And.intro h8 hB8)
                   clear h8 hB8 hv8))
            have dE : (E == E) = true := by simp
            try (clear hHeld)
            go_wp2_with fail
            go_meet
            exact ⟨rfl, rfl, _, b7, _, m, HREL.out.1, HLB.out, by omega, HREL.out.2⟩
        by_cases k4 : xk = 4
        · as_aux_lemma =>
            subst k4
            have HC := Lib.hid (HO1.out.reset HA.out hd6)
            have HD : Hid ((rstM b m).done ≤ j + 1) := Lib.hid (by have := done_rst b m; omega)
            have HLB : Hid ((rstT b m).r.length = Z) := Lib.hid (by rw [len_rst]; exact HBLN.out)
            have hz64 := HZ.out.2
            cases hq : b.q with
            | nil =>
              have E1 : rstZ b m = 0 := by unfold rstZ; rw [hq]
              have E2 : rstE b m = 81 := by unfold rstE; rw [hq]
              have E3 : rstT b m = b := by unfold rstT; rw [hq]
              rewrite [E1, E2, E3] at HC
              have HXQ := Lib.hid (fun (w : World) (F G : Nat → Prop) (h : Bes (RfN ob (gr + 1) gr b) W w F G) => by
                obtain ⟨S, ⟨⟨a, c, hr⟩, _⟩, _⟩ := h
                have := hr.cells.2.1
                rewrite [hq, List.length_nil] at this
                exact (show ∃ a c, w.cell? ⟨gr + 1, 1, none⟩ = some (.slice a 0 c) from ⟨a, c, this⟩))
              clear E1 E2 E3 HLB hq
              generalize rstM b m = m7 at *
              go_wp2_with fail
              refine HC.out.mono ?_
              rintro e w7 ⟨rfl, F7, G7, h7, g1, g2, g3⟩
              have hB7 := HB1.out.step (keepsRfN _ _ _ _) g1 g2 g3
              obtain ⟨xa, xc, cq⟩ := HXQ.out w7 F7 G7 hB7
              have HREL := Lib.hid (And.intro h7 hB7)
              clear h7 g1 g2 g3 hB7 HC HO1 HB1
              go_wp2_with fail
              go_meet
              exact ⟨rfl, rfl, F7, b, G7, m7, HREL.out.1, HBLN.out, HD.out, HREL.out.2⟩
            | cons zq zs =>
              have hzm := (HO1.out.tb.wt.qr zq).1 (by rw [hq]; exact List.mem_cons_self ..)
              have hzZ : zq < Z := by have := HBLN.out; omega
              have hWZ := Lib.hid (show wf64 (zq : Int) from wf_small (by omega) (by omega))
              have HXQ := Lib.hid (fun (w : World) (F G : Nat → Prop) (h : Bes (RfN ob (gr + 1) gr b) W w F G) => by
                obtain ⟨S, ⟨⟨a, c, hr⟩, _⟩, _⟩ := h
                obtain ⟨k0, k1, k2⟩ := hr.cells
                obtain ⟨bq, bo, rfl, hSb, hcq⟩ := hr.row.at_ (by rw [hq]; simp)
                have k3 := hcq 0 (by rw [hq]; simp)
                have k4 := hr.role hzm.1
                have k5 := hr.hr.frozen zq
                rewrite [hq] at k1 k3
                rewrite [HBLN.out] at k0
                exact (show ∃ bq bo c, w.cell? ⟨gr + 1, 0, none⟩ = some (.slice (some ⟨gr, 0, none⟩) Z Z) ∧ w.cell? ⟨gr + 1, 1, none⟩ = some (.slice (some ⟨bq, bo, none⟩) (zs.length + 1) c) ∧ w.cell? ⟨bq, bo, none⟩ = some (.int .i64 (zq : Int)) ∧ w.cell? ⟨gr, zq, none⟩ = some (.int .i64 ((b.r.getD zq 0 : Nat) : Int)) ∧ w.frozen? ⟨gr, zq, none⟩ = false ∧ bq ≠ gr from ⟨bq, bo, c, k0, k1, k3, k4, k5, hSb.2.2⟩))
              have hzl : (((zs.length + 1 : Nat) : Int) == 0) = false := by rw [beq_eq_false_iff_ne]; omega
              rcases rst_ways HO1.out.tb.wt HO1.out.len hq with ⟨E1, E2, E3, E4⟩ | ⟨E1, E2, E3, E4, E5⟩
              · rewrite [E1, E2, E4] at HC
                have HDW := Lib.hid (fun (w : World) (F G : Nat → Prop) (h : Own2 D T W w t F b d G (rstM b m)) => by
                  have := h.down HM.out HA.out
                  rewrite [E3] at this
                  exact this)
                clear E1 E2 E3 E4 HLB hq hzm
                generalize rstM b m = m7 at *
                generalize zs.length = zn at *
                go_wp2_with fail
                refine HC.out.mono ?_
                rintro e w7 ⟨rfl, F7, G7, h7, g1, g2, g3⟩
                have hB7 := HB1.out.step (keepsRfN _ _ _ _) g1 g2 g3
                obtain ⟨bq, bo, xc, cq0, cq, cz, cg, cf, nb⟩ := HXQ.out w7 F7 G7 hB7
                have HC8 := Lib.hid (HDW.out _ _ _ h7)
                have HB7 := Lib.hid hB7
                clear h7 g1 g2 g3 hB7 HC HO1 HB1
                go_wp2_with fail
                refine HC8.out.mono ?_
                rintro e w8 ⟨rfl, F8, G8, h8, g1, g2, g3⟩
                have HREL := Lib.hid (And.intro h8 (HB7.out.step (keepsRfN _ _ _ _) g1 g2 g3))
                clear h8 g1 g2 g3 HC8 HB7
                go_wp2_with fail
                go_meet
                exact ⟨rfl, rfl, F8, b, G8, m7, HREL.out.1, HBLN.out, HD.out, HREL.out.2⟩
              · rewrite [E1, E2] at HC
                have HDW := Lib.hid (fun (w : World) (F G : Nat → Prop) (h : Own2 D T W w t F (rstT b m) d G (rstM b m)) => by
                  have := h.down HM.out HA.out
                  rewrite [E3] at this
                  exact this)
                have HST := Lib.hid (fun (w : World) (F G : Nat → Prop) (h : Own2 D T W w t F (rstT b m) d G (rstM b m)) => by
                  have := h.state HM.out HA.out hWZ.out
                  rewrite [E4] at this
                  exact this)
                have HE5 := Lib.hid E5
                have HQ := Lib.hid hq
                clear E1 E2 E3 E4 E5 hzm
                generalize rstM b m = m7 at *
                obtain ⟨b7, hb7⟩ : ∃ x, rstT b m = x := ⟨_, rfl⟩
                rewrite [hb7] at HC HDW HST HE5 HLB
                obtain ⟨zn, hzn⟩ : ∃ x, zs.length = x := ⟨_, rfl⟩
                rewrite [hzn] at hzl HXQ
                have HZN := Lib.hid hzn
                clear hb7 hzn hq
                have dzz : ((zq : Int) == (zq : Int)) = true := by simp
                go_wp2_with fail
                refine HC.out.mono ?_
                rintro e w7 ⟨rfl, F7, G7, h7, g1, g2, g3⟩
                have hB7 := HB1.out.step (keepsRfN _ _ _ _) g1 g2 g3
                obtain ⟨bq, bo, xc, cq0, cq, cz, cg, cf, nb⟩ := HXQ.out w7 F7 G7 hB7
                have HC8 := Lib.hid (HDW.out _ _ _ h7)
                have HB7 := Lib.hid hB7
                have ho7 : ob < w7.heap.size := by have := g3.size; omega
                clear h7 g1 g2 g3 hB7 HC HO1 HB1 HDW
                go_wp2_with fail
                refine HC8.out.mono ?_
                rintro e w8 ⟨rfl, F8, G8, h8, g1, g2, g3⟩
                have hB8 := HB7.out.step (keepsRfN _ _ _ _) g1 g2 g3
                clear cq0 cq cz cg cf nb
                obtain ⟨bq, bo, xc, cq0, cq, cz, cg, cf, nb⟩ := HXQ.out w8 F8 G8 hB8
                have HC9 := Lib.hid (HST.out _ _ _ h8)
                have HB8 := Lib.hid hB8
                have ho8 : ob < w8.heap.size := by have := g3.size; omega
                clear h8 g1 g2 g3 hB8 HC8 HB7 HST
                go_wp2_with fail
                refine HC9.out.mono ?_
                rintro e w9 ⟨rfl, F9, G9, h9, g1, g2, g3⟩
                have hB9 := HB8.out.step (keepsRfN _ _ _ _) g1 g2 g3
                clear cq0 cq cz cg cf nb
                obtain ⟨bq, bo, xc, cq0, cq, cz, cg, cf, nb⟩ := HXQ.out w9 F9 G9 hB9
                have ho9 : ob < w9.heap.size := by have := g3.size; omega
                obtain ⟨S9, ⟨⟨qa, qc, hR⟩, hno⟩, hS9⟩ := hB9
                have hqe := cq.symm.trans hR.cells.2.1
                simp only [Option.some.injEq, Value.slice.injEq] at hqe
                obtain ⟨rfl, hql_, rfl⟩ := hqe
                clear hql_
                have H9 := Lib.hid h9
                obtain ⟨hR1, fR1⟩ := (hR.keep (Fr.refl No w9).drew (fun _ _ h => h)).set_ zq 0
                obtain ⟨W9, hW9⟩ : ∃ x, w9.drew.setCell ⟨gr, zq, none⟩ (.int .i64 ((0 : Nat) : Int)) = x := ⟨_, rfl⟩
                have hW9' : w9.drew.setCell ⟨gr, zq, none⟩ (.int .i64 0) = W9 := hW9
                rewrite [hW9] at hR1 fR1
                have hrow := hR1.row
                rewrite [show (setT b zq 0).q = zq :: zs from HQ.out] at hrow
                obtain ⟨xa', hcut, hrow2⟩ := hrow.tail
                rewrite [HZN.out] at hcut
                have h9s : W9.heap.size = w9.heap.size := by rw [← hW9]; simp [World.setCell]
                obtain ⟨y1, y2, y3, y4⟩ := hR1.que (q := zs) (hrow2.sub fun k _ hk => .inl hk) (Fr.refl _ _)
                rewrite [show (setT b zq 0).q.length = zn + 1 by show b.q.length = _; rw [HQ.out, List.length_cons, HZN.out], HZN.out] at *
                have y0 : W9.cell? ⟨gr + 1, 0, none⟩ = some (.slice (some ⟨gr, 0, none⟩) Z Z) := by
                  have := hR1.cells.1
                  rewrite [show (setT b zq 0).r.length = Z by rw [set_length]; exact HBLN.out] at this
                  exact this
                have HRES : Hid (∃ S', Rf (gr + 1) gr { r := b.r.set zq 0, q := zs } (W9.setCell ⟨gr + 1, 1, none⟩ (.slice xa' zn (xc - 1))) S' ∧ (∀ k, S' k → S9 k ∨ (w9.heap.size ≤ k ∧ k < (W9.setCell ⟨gr + 1, 1, none⟩ (.slice xa' zn (xc - 1))).heap.size)) ∧ Fr S9 w9 (W9.setCell ⟨gr + 1, 1, none⟩ (.slice xa' zn (xc - 1)))) := Lib.hid ⟨_, ⟨_, _, y3⟩, fun k hk => hk.elim .inl (fun h => .inr ⟨by rw [← h9s]; exact h.1, h.2⟩), (((Fr.refl S9 w9).drew).trans fR1).trans y4⟩
                have hS9' : ∀ x, S9 x → ¬ F9 x ∧ ¬ G9 x ∧ W.heap.size ≤ x ∧ x < w9.heap.size := hS9
                have HREL : Hid (Own2 D T W (W9.setCell ⟨gr + 1, 1, none⟩ (.slice xa' zn (xc - 1))) t F9 b7 d G9 m7 ∧ Bes (RfN ob (gr + 1) gr b7) W (W9.setCell ⟨gr + 1, 1, none⟩ (.slice xa' zn (xc - 1))) F9 G9) := Lib.hid (by
                  obtain ⟨S', z1, z2, z3⟩ := HRES.out
                  rw [HE5.out]
                  rewrite [HE5.out] at H9
                  refine ⟨H9.out.turnS HM.out HA.out z3 hS9', S', ⟨z1, fun h => (z2 ob h).elim hno (fun h => by omega)⟩, fun x hx => ?_⟩
                  have hzz := z3.size
                  rcases z2 x hx with h5 | h5
                  · obtain ⟨s1, s2, s3, s4⟩ := hS9' x h5
                    exact ⟨s1, s2, s3, by omega⟩
                  · have h6 := H9.out.fr.size
                    exact ⟨H9.out.tb.low HA.out x h5.1, H9.out.dv.low HM.out x h5.1, by omega, h5.2⟩)
                have HS3 : Hid (W9.cell? ⟨gr + 1, 0, none⟩ = some (.slice (some ⟨gr, 0, none⟩) Z Z)) := Lib.hid y0
                have HW9 := Lib.hid hW9'
                have HF9 : Hid (Fr (One gr) w9 W9) := Lib.hid (by
                  rw [← hW9]
                  exact ((Fr.refl (One gr) w9).drew).setCell (p := ⟨gr, zq, none⟩) (fun _ => (rfl : gr = gr)) _)
                have nX : ¬ One gr (gr + 1) := fun h => by have h : gr + 1 = gr := h; omega
                have nQ : ¬ One gr bq := nb
                have cgd : w9.drew.cell? ⟨gr, zq, none⟩ = some (.int .i64 ((b.r.getD zq 0 : Nat) : Int)) := cg
                have cfd : w9.drew.frozen? ⟨gr, zq, none⟩ = false := cf
                clear hR1 fR1 hrow hrow2 y3 y4 h9 g1 g2 g3 hno hS9 hS9' hW9 hW9' HC9 HB8 h9s hR nb
                go_wp2_with fail
                refine wp_region_held_drew (S := fun w' => Fr (One gr) w9 w') (by kernel_rfl) (Fr.refl (One gr) w9).drew (fun hHeld => ?_)
                refine take_drop (i := 0) (v := ?v0_2) rfl (by kernel_rfl) (by kernel_rfl) (by kernel_rfl) (fun _ _ _ h => h) (Or.inl ⟨by rfl, ?h0_2⟩) hHeld ?r0_2
                case h0_2 => (intro wS hSw; have c0 := hSw.cell cq0 nX; have c1 := hSw.cell cq nX; have c2 := hSw.cell cz nQ; go_simp; all_goals (with_reducible rfl))
                simp only [Act.put, List.setIfInBounds_toArray, List.set_cons_zero, List.set_cons_succ]
                refine take_drop (i := 1) (v := ?v1_3) rfl (by kernel_rfl) (by kernel_rfl) (by kernel_rfl) (fun _ _ _ h => h) (Or.inl ⟨by rfl, ?h1_3⟩) hHeld ?r1_3
                case h1_3 => (intro wS hSw; have c0 := hSw.cell cq0 nX; have c1 := hSw.cell cq nX; have c2 := hSw.cell cz nQ; go_simp; all_goals (with_reducible rfl))
                simp only [Act.put, List.setIfInBounds_toArray, List.set_cons_zero, List.set_cons_succ]
                refine take_drop (i := 2) (v := ?v2_4) rfl (by kernel_rfl) (by kernel_rfl) (by kernel_rfl) (fun _ _ _ h => h) (Or.inl ⟨by rfl, ?h2_4⟩) hHeld ?r2_4
                case h2_4 => (intro wS hSw; have c0 := hSw.cell cq0 nX; have c1 := hSw.cell cq nX; have c2 := hSw.cell cz nQ; go_simp; all_goals (with_reducible rfl))
                simp only [Act.put, List.setIfInBounds_toArray, List.set_cons_zero, List.set_cons_succ]
                refine take_drop (i := 3) (v := ?v3_5) rfl (by kernel_rfl) (by kernel_rfl) (by kernel_rfl) (fun _ _ _ h => h) (Or.inl ⟨by rfl, ?h3_5⟩) hHeld ?r3_5
                case h3_5 => (intro wS hSw; have c0 := hSw.cell cq0 nX; have c1 := hSw.cell cq nX; have c2 := hSw.cell cz nQ; go_simp; all_goals (with_reducible rfl))
                simp only [Act.put, List.setIfInBounds_toArray, List.set_cons_zero, List.set_cons_succ]
                refine take_drop (i := 4) (v := ?v4_6) rfl (by kernel_rfl) (by kernel_rfl) (by kernel_rfl) (fun _ _ _ h => h) (Or.inl ⟨by rfl, ?h4_6⟩) hHeld ?r4_6
                case h4_6 => (intro wS hSw; have c0 := hSw.cell cq0 nX; have c1 := hSw.cell cq nX; have c2 := hSw.cell cz nQ; go_simp; all_goals (with_reducible rfl))
                simp only [Act.put, List.setIfInBounds_toArray, List.set_cons_zero, List.set_cons_succ]
                refine take_drop (i := 5) (v := ?v5_7) rfl (by kernel_rfl) (by kernel_rfl) (by kernel_rfl) (fun _ _ _ h => h) (Or.inl ⟨by rfl, ?h5_7⟩) hHeld ?r5_7
                case h5_7 => (intro wS hSw; have c0 := hSw.cell cq0 nX; have c1 := hSw.cell cq nX; have c2 := hSw.cell cz nQ; go_simp; all_goals (with_reducible rfl))
                simp only [Act.put, List.setIfInBounds_toArray, List.set_cons_zero, List.set_cons_succ]
                refine take_drop (i := 6) (v := ?v6_8) rfl (by kernel_rfl) (by kernel_rfl) (by kernel_rfl) (fun _ _ _ h => h) (Or.inl ⟨by rfl, ?h6_8⟩) hHeld ?r6_8
                case h6_8 => (intro wS hSw; have c0 := hSw.cell cq0 nX; have c1 := hSw.cell cq nX; have c2 := hSw.cell cz nQ; go_simp; all_goals (with_reducible rfl))
                simp only [Act.put, List.setIfInBounds_toArray, List.set_cons_zero, List.set_cons_succ]
                refine take_drop (i := 7) (v := ?v7_9) rfl (by kernel_rfl) (by kernel_rfl) (by kernel_rfl) (fun _ _ _ h => h) (Or.inl ⟨by rfl, ?h7_9⟩) hHeld ?r7_9
                case h7_9 => (intro wS hSw; have c0 := hSw.cell cq0 nX; have c1 := hSw.cell cq nX; have c2 := hSw.cell cz nQ; go_simp; all_goals (with_reducible rfl))
                simp only [Act.put, List.setIfInBounds_toArray, List.set_cons_zero, List.set_cons_succ]
                refine take_drop (i := 8) (v := ?v8_10) rfl (by kernel_rfl) (by kernel_rfl) (by kernel_rfl) (fun _ _ _ h => h) (Or.inl ⟨by rfl, ?h8_10⟩) hHeld ?r8_10
                case h8_10 => (intro wS hSw; have c0 := hSw.cell cq0 nX; have c1 := hSw.cell cq nX; have c2 := hSw.cell cz nQ; go_simp; all_goals (with_reducible rfl))
                simp only [Act.put, List.setIfInBounds_toArray, List.set_cons_zero, List.set_cons_succ]
                refine take_drop (i := 9) (v := ?v9_11) rfl (by kernel_rfl) (by kernel_rfl) (by kernel_rfl) (fun _ _ _ h => h) (Or.inl ⟨by rfl, ?h9_11⟩) hHeld ?r9_11
                case h9_11 => (intro wS hSw; have c0 := hSw.cell cq0 nX; have c1 := hSw.cell cq nX; have c2 := hSw.cell cz nQ; go_simp; all_goals (with_reducible rfl))
                simp only [Act.put, List.setIfInBounds_toArray, List.set_cons_zero, List.set_cons_succ]
                refine take_drop (i := 10) (v := ?v10_12) rfl (by kernel_rfl) (by kernel_rfl) (by kernel_rfl) (fun _ _ _ h => h) (Or.inl ⟨by rfl, ?h10_12⟩) hHeld ?r10_12
                case h10_12 => (intro wS hSw; have c0 := hSw.cell cq0 nX; have c1 := hSw.cell cq nX; have c2 := hSw.cell cz nQ; go_simp; all_goals (with_reducible rfl))
                simp only [Act.put, List.setIfInBounds_toArray, List.set_cons_zero, List.set_cons_succ]
                refine wpAnyH_ready (rs := [11]) (by kernel_rfl) (by simp) ?_
                refine do_drop (i := 11) rfl (fun K hK => ?_) AllReadyH.nil
                go_simp
                rw [show (w9.setCell ⟨gr, zq, none⟩ (.int .i64 0)).drew = W9 from HW9.out]
                refine hK.out _ _ HF9.out ?_
                clear hK K
                try simp only [Act.put, List.setIfInBounds_toArray, List.set_cons_zero, List.set_cons_succ]
                refine wpAnyH_done (by kernel_rfl) ?_ _
                clear hHeld
                go_wp2_with fail
                go_meet
                exact ⟨rfl, rfl, F9, b7, G9, m7, HREL.out.1, HLB.out, HD.out, HREL.out.2⟩
        by_cases k5 : xk = 5
        · as_aux_lemma =>
            subst k5
            have hz64 := HZ.out.2
            have hml : m.zs.length = b.r.length := HO1.out.len
            have HXR := Lib.hid (fun (k : Nat) (w : World) (F G : Nat → Prop) (h : Bes (RfN ob (gr + 1) gr (prT b m k)) W w F G) => by
              obtain ⟨S, ⟨⟨a, c, hr⟩, _⟩, _⟩ := h
              have k0 := hr.cells.1
              rewrite [pr_len, HBLN.out] at k0
              exact (show w.cell? ⟨gr + 1, 0, none⟩ = some (.slice (some ⟨gr, 0, none⟩) Z Z) from k0))
            have HXK := Lib.hid (fun (k : Nat) (hk : k < Z) (w : World) (F G : Nat → Prop) (h : Bes (RfN ob (gr + 1) gr (prT b m k)) W w F G) => by
              obtain ⟨S, ⟨⟨a, c, hr⟩, _⟩, _⟩ := h
              have hkb : k < b.r.length := by rw [HBLN.out]; exact hk
              have k1 := hr.role (k := k) (by rw [pr_len]; exact hkb)
              rewrite [pr_get m hkb] at k1
              exact (show w.cell? ⟨gr, k, none⟩ = some (.int .i64 ((b.r.getD k 0 : Nat) : Int)) from k1))
            have HWY := Lib.hid (fun (k : Nat) (hk : k < Z) => pr_ways b m hml (k := k) (by rw [HBLN.out]; exact hk))
            have HB5 : Hid (Bes (RfN ob (gr + 1) gr (prT b m 0)) W wv F G) := Lib.hid (by rw [pr_zero]; exact HB1.out)
            have c0 := HXR.out 0 _ _ _ HB5.out
            have HLEN := Lib.hid (fun (k : Nat) => show ((List.range k).filter (leftT b m)).length ≤ k by
              have := List.length_filter_le (leftT b m) (List.range k)
              rewrite [List.length_range] at this
              exact this)
            clear hml HB1
            go_wp2_with fail
            clear c0
            go_loopw [17, 195] (fun n i wq => ∃ (k : Nat), i = .int .i64 k ∧ k ≤ Z ∧ n = .int .i64 ((((List.range k).filter (leftT b m)).length : Nat) : Int) ∧ Own2 D T W wq t F b d G m ∧ Bes (RfN ob (gr + 1) gr (prT b m k)) W wq F G ∧ ob < wq.heap.size) (fun _ i _ => Z - (intOf i).toNat)
            case atStart => exact ⟨0, rfl, Nat.zero_le _, rfl, HO1.out, HB5.out, hoz⟩
            case round =>
              clear HO1 HB5
              obtain ⟨k, rfl, hk, rfl, hO, hB, hob2⟩ := hrel
              have HO := Lib.hid hO
              have HB := Lib.hid hB
              have hln := HLEN.out k
              obtain ⟨nk, hnk⟩ : ∃ x, ((List.range k).filter (leftT b m)).length = x := ⟨_, rfl⟩
              rewrite [hnk] at hln
              rw [hnk]
              have HNK := Lib.hid hnk
              clear hO hB hnk
              by_cases h2 : k < Z
              · have d1 : decide ((k : Int) < (Z : Int)) = true := by rw [decide_eq_true_eq]; omega
                have ck := HXK.out k h2 _ _ _ HB.out
                rcases HWY.out k h2 with ⟨hl, hr0⟩ | ⟨hl, hr0, hs0⟩ | ⟨hl, hr0, hs0⟩
                · obtain ⟨e1, e2⟩ := pr_no hl
                  have dr : (((b.r.getD k 0 : Nat) : Int) == 0) = false := by
                    rw [beq_eq_false_iff_ne] at hr0 ⊢
                    omega
                  have HREL : Hid (Bes (RfN ob (gr + 1) gr (prT b m (k + 1))) W wr F G ∧ ((List.range (k + 1)).filter (leftT b m)).length = nk) := Lib.hid ⟨by rw [e1]; exact HB.out, by rw [e2]; exact HNK.out⟩
                  clear hl hr0 e1 e2
                  generalize ((b.r.getD k 0 : Nat) : Int) = rv at *
                  go_wp2_with fail
                  go_roundw
                  case rel => exact ⟨k + 1, by simp, by omega, by rw [HREL.out.2], HO.out, HREL.out.1, hob2⟩
                  case measure => simp [intOf]; omega
                · obtain ⟨e1, e2⟩ := pr_no hl
                  rewrite [hr0] at ck
                  have HST := Lib.hid (HO.out.dv.state HM.out (z := (k : Int)) (wf_small (by omega) (by omega)))
                  have HREL : Hid (∀ w F G, Bes (RfN ob (gr + 1) gr (prT b m k)) W w F G → Bes (RfN ob (gr + 1) gr (prT b m (k + 1))) W w F G) := Lib.hid fun w F G h => by rw [e1]; exact h
                  have HNL : Hid (((List.range (k + 1)).filter (leftT b m)).length = nk) := Lib.hid (by rw [e2]; exact HNK.out)
                  clear hl hr0 e1 e2
                  generalize stateM m (k : Int) = sv at *
                  go_wp2_with fail
                  refine HST.out.mono ?_
                  rintro e w8 ⟨rfl, _, f8⟩
                  have HREL2 := Lib.hid (And.intro (HO.out.keep HM.out HA.out f8) (HREL.out _ _ _ (HB.out.quiet (keepsRfN _ _ _ _) f8)))
                  have ho8 : ob < w8.heap.size := by have := f8.size; omega
                  clear f8 HST HO HB
                  go_wp2_with fail
                  go_roundw
                  case rel => exact ⟨k + 1, by simp, by omega, by rw [HNL.out], HREL2.out.1, HREL2.out.2, ho8⟩
                  case measure => simp [intOf]; omega
                · obtain ⟨e1, e2⟩ := pr_yes hl
                  rewrite [hr0] at ck
                  have HST := Lib.hid (HO.out.dv.state HM.out (z := (k : Int)) (wf_small (by omega) (by omega)))
                  have HE1 := Lib.hid e1
                  have HNL : Hid (((List.range (k + 1)).filter (leftT b m)).length = nk + 1) := Lib.hid (by rw [e2, HNK.out])
                  clear hl hr0 e1 e2
                  generalize stateM m (k : Int) = sv at *
                  have hwn : nk ≤ 64 := by omega
                  go_wp2_with fail
                  refine HST.out.mono ?_
                  rintro e w8 ⟨rfl, _, f8⟩
                  have hO8 := HO.out.keep HM.out HA.out f8
                  have hB8 := HB.out.quiet (keepsRfN _ _ _ _) f8
                  obtain ⟨S8, ⟨⟨qa, qc, hR⟩, hno⟩, hS8⟩ := hB8
                  have ho8 : ob < w8.heap.size := by
                    have h9 := f8.size
                    omega
                  obtain ⟨a', c', w2', hrun, e1, e2, e3, e4, e5⟩ := rf_enq hR k (by
                    show (b.q ++ (List.range k).filter (leftT b m)).length < 100000
                    rw [List.length_append, HNK.out]
                    have := wt_q HO.out.tb.wt
                    omega)
                  have c8 := hR.cells.1
                  rewrite [pr_len, HBLN.out] at c8
                  have ck8 := f8.cell ck (fun h => h)
                  have cf8 := hR.hr.frozen k
                  have HRUN := Lib.hid hrun
                  obtain ⟨nq, hnq⟩ : ∃ x, (prT b m k).q.length = x := ⟨_, rfl⟩
                  rewrite [hnq] at HRUN e1 e3 e4 e5
                  obtain ⟨W9, hW9⟩ : ∃ x, w2'.setCell ⟨gr + 1, 1, none⟩ (.slice a' (nq + 1) c') = x := ⟨_, rfl⟩
                  rewrite [hW9] at e3 e4
                  have HREL2 : Hid (Own2 D T W W9 t F b d G m ∧ Bes (RfN ob (gr + 1) gr (prT b m (k + 1))) W W9 F G) := Lib.hid (by
                    rw [HE1.out]
                    exact both_s HM.out HA.out hO8 hno hS8 ho8 e3 (fun k hk => hk) e4)
                  have HW9 := Lib.hid hW9
                  have ho9 : ob < W9.heap.size := by have := e4.size; omega
                  clear hO8 hR hno hS8 f8 e3 e4 hrun hnq hW9 HST HO HB ck
                  go_wp2_with (at_builtin; refine wpList_append_run rfl _ _ 29 rfl rfl rfl HRUN.out ?_)
                  rw [HW9.out]
                  go_roundw
                  case rel => exact ⟨k + 1, by simp, by omega, by rw [HNL.out]; simp, HREL2.out.1, HREL2.out.2, ho9⟩
                  case measure => simp [intOf]; omega
              · obtain rfl : k = Z := by omega
                have d1 : decide ((k : Int) < (k : Int)) = false := by simp
                have hpr : prT b m k = rebT b m := by rw [← HBLN.out]; rfl
                have hlr : (rebL b m).length = nk := by rw [← HNK.out, ← HBLN.out]; rfl
                have HC := Lib.hid (HO.out.rebuild HM.out HA.out)
                rewrite [hlr] at HC
                have HLB : Hid ((rebT b m).r.length = k) := Lib.hid (by rw [reb_len]; exact HBLN.out)
                rewrite [hpr] at HB
                have dnk : ((nk : Int) == (nk : Int)) = true := by simp
                clear hpr hlr
                generalize rebT b m = b7 at *
                go_wp2_with fail
                refine HC.out.mono ?_
                rintro e w7 ⟨rfl, F7, G7, h7, g1, g2, g3⟩
                have HREL := Lib.hid (And.intro h7 (HB.out.step (keepsRfN _ _ _ _) g1 g2 g3))
                clear h7 g1 g2 g3 HC HO HB
                go_wp2_with fail
                go_meet
                exact ⟨rfl, rfl, F7, b7, G7, m, HREL.out.1, HLB.out, by omega, HREL.out.2⟩
        by_cases k6 : xk = 6
        · as_aux_lemma =>
            subst k6
            obtain ⟨bs, hbs⟩ : ∃ bs : List UInt8, bs = [1] := ⟨_, rfl⟩
            have hC0 := HO1.out.appx HM.out HA.out hd6 xz HWF.out.1 bs 1 (by rw [hbs]; rfl) (by decide) (0, 0) _ rfl
            have hbm : (bs.map byt).toArray = #[Value.int .u8 1] := by rw [hbs]; rfl
            rewrite [hbm] at hC0
            have HC := Lib.hid hC0
            have HD : Hid ((appM m xz bs).done ≤ j + 1) := Lib.hid (by have := done_app m xz bs; omega)
            clear hC0 hbm hbs
            generalize appM m xz bs = m7 at *
            generalize cmdR m (appErr m xz bs) = rv at *
            go_wp2_with fail
            refine HC.out.mono ?_
            rintro e w7 ⟨rfl, F7, G7, h7, g1, g2, g3⟩
            have HREL := Lib.hid (And.intro h7 (HB1.out.step (keepsRfN _ _ _ _) g1 g2 g3))
            clear h7 g1 g2 g3 HC HO1 HB1
            go_wp2_with fail
            go_meet
            exact ⟨rfl, rfl, F7, b, G7, m7, HREL.out.1, HBLN.out, HD.out, HREL.out.2⟩
        by_cases k7 : xk = 7
        · as_aux_lemma =>
            subst k7
            have HC := Lib.hid (HO1.out.arm HM.out HA.out HWF.out.2)
            have HD : Hid ((armM m xn).done ≤ j + 1) := Lib.hid (by show m.done ≤ j + 1; omega)
            generalize armM m xn = m7 at *
            go_wp2_with fail
            refine HC.out.mono ?_
            rintro e w7 ⟨rfl, F7, G7, h7, g1, g2, g3⟩
            have HREL := Lib.hid (And.intro h7 (HB1.out.step (keepsRfN _ _ _ _) g1 g2 g3))
            clear h7 g1 g2 g3 HC HO1 HB1
            go_wp2_with fail
            go_meet
            exact ⟨rfl, rfl, F7, b, G7, m7, HREL.out.1, HBLN.out, HD.out, HREL.out.2⟩
        by_cases k8 : xk = 8
        · as_aux_lemma =>
            subst k8
            have HC := Lib.hid (HO1.out.crashN HM.out HA.out)
            have HD : Hid ((crashM m []).done ≤ j + 1) := Lib.hid (by show m.done ≤ j + 1; omega)
            generalize crashM m [] = m7 at *
            go_wp2_with fail
            refine HC.out.mono ?_
            rintro e w7 ⟨rfl, F7, G7, h7, g1, g2, g3⟩
            have HREL := Lib.hid (And.intro h7 (HB1.out.step (keepsRfN _ _ _ _) g1 g2 g3))
            clear h7 g1 g2 g3 HC HO1 HB1
            go_wp2_with fail
            go_meet
            exact ⟨rfl, rfl, F7, b, G7, m7, HREL.out.1, HBLN.out, HD.out, HREL.out.2⟩
        have n1 : (xk == 1) = false := by rw [beq_eq_false_iff_ne]; exact k1
        have n2 : (xk == 2) = false := by rw [beq_eq_false_iff_ne]; exact k2
        have n3 : (xk == 3) = false := by rw [beq_eq_false_iff_ne]; exact k3
        have n4 : (xk == 4) = false := by rw [beq_eq_false_iff_ne]; exact k4
        have n5 : (xk == 5) = false := by rw [beq_eq_false_iff_ne]; exact k5
        have n6 : (xk == 6) = false := by rw [beq_eq_false_iff_ne]; exact k6
        have n7 : (xk == 7) = false := by rw [beq_eq_false_iff_ne]; exact k7
        have n8 : (xk == 8) = false := by rw [beq_eq_false_iff_ne]; exact k8
        clear k1 k2 k3 k4 k5 k6 k7 k8
        go_wp2_with fail
        go_meet
        exact ⟨rfl, rfl, F, b, G, m, HO1.out, HBLN.out, by omega, HB1.out⟩
      case rest =>
        clear HO1 HB1 hd6 HNF HWF v0 v1 v2 q0 q1 q2 hwv hdn d1
        obtain ⟨rfl, rfl, F6, b6, G6, m6, h8, hbl8, hd8, hB8⟩ := hcut
        have hB8 := bes_o hB8
        have HBL8 := Lib.hid hbl8
        have hZ64 := HZ.out.2
        have HXC := Lib.hid (fun (w : World) (h : Bes (Rf (gr + 1) gr b6) W w F6 G6) => by
          obtain ⟨S, ⟨a, c, hr⟩, _⟩ := h
          have k0 := hr.cells.1
          rewrite [hbl8] at k0
          exact (show w.cell? ⟨gr + 1, 0, none⟩ = some (.slice (some ⟨gr, 0, none⟩) Z Z) from k0))
        have HXK := Lib.hid (fun (k : Nat) (hk : k < Z) (w : World) (h : Bes (Rf (gr + 1) gr b6) W w F6 G6) => by
          obtain ⟨S, ⟨a, c, hr⟩, _⟩ := h
          exact hr.role (k := k) (by rw [hbl8]; exact hk))
        have hwq := wt_q h8.tb.wt
        have hql := (fun x hx => by
          have h7 := ((h8.tb.wt.qr x).1 hx).1
          have h9 := h8.tb.wt.n64
          omega : ∀ x ∈ b6.q, x < 64)
        have h8d := h8.keep HM.out HA.out (Fr.refl No wc).drew
        obtain ⟨Q, hQ⟩ : ∃ Q, b6.q.map (fun (x : Nat) => (x : Int)) = Q := ⟨_, rfl⟩
        obtain ⟨nq, hnq⟩ : ∃ n, b6.q.length = n := ⟨_, rfl⟩
        have hQn : Q.length = nq := by rw [← hQ, List.length_map, hnq]
        obtain ⟨xa, xc, cq, hxi⟩ : ∃ xa xc, wc.cell? ⟨gr + 1, 1, none⟩ = some (.slice xa nq xc) ∧ Ints wc xa Q := by
          obtain ⟨S, ⟨a, c, hr⟩, _⟩ := hB8
          have k1 := hr.cells.2.1
          rewrite [hnq] at k1
          refine ⟨a, c, k1, ?_⟩
          rw [← hQ]
          exact hr.row.ints (fun x hx => by have := hql x hx; omega)
        have HQ := Lib.hid (h8d.queue HM.out HA.out)
        unfold IntsRet at HQ
        rewrite [hnq, hQ] at HQ
        have HIX := Lib.hid hxi
        have HQN := Lib.hid hQn
        have HB8 := Lib.hid (hB8.quiet (keepsRf _ _ _) (Fr.refl No wc).drew)
        rewrite [hnq] at hwq
        clear h8 hB8 h8d hnq hQ hxi hQn hql hbl8
        go_wp2_with fail
        refine wp_region_held_drew (S := fun w' => w'.cell? ⟨gr + 1, 1, none⟩ = some (.slice xa nq xc)) (by kernel_rfl) cq (fun hHeld => ?_)
        refine take_drop (i := 0) (v := ?v0_13) rfl (by kernel_rfl) (by kernel_rfl) (by kernel_rfl) (fun _ _ _ h => h) (Or.inl ⟨by rfl, ?h0_13⟩) hHeld ?r0_13
        case h0_13 => (intro wS hSw; go_simp; all_goals (with_reducible rfl))
        simp only [Act.put, List.setIfInBounds_toArray, List.set_cons_zero, List.set_cons_succ]
        refine take_drop (i := 1) (v := ?v1_13) rfl (by kernel_rfl) (by kernel_rfl) (by kernel_rfl) (fun _ _ _ h => h) (Or.inl ⟨by rfl, ?h1_13⟩) hHeld ?r1_13
        case h1_13 => (intro wS hSw; go_simp; all_goals (with_reducible rfl))
        simp only [Act.put, List.setIfInBounds_toArray, List.set_cons_zero, List.set_cons_succ]
        refine take_drop (i := 2) (v := ?v2_13) rfl (by kernel_rfl) (by kernel_rfl) (by kernel_rfl) (fun _ _ _ h => h) (Or.inl ⟨by rfl, ?h2_13⟩) hHeld ?r2_13
        case h2_13 => (intro wS hSw; go_simp; all_goals (with_reducible rfl))
        simp only [Act.put, List.setIfInBounds_toArray, List.set_cons_zero, List.set_cons_succ]
        refine take_drop (i := 3) (v := ?v3_13) rfl (by kernel_rfl) (by kernel_rfl) (by kernel_rfl) (fun _ _ _ h => h) (Or.inl ⟨by rfl, ?h3_13⟩) hHeld ?r3_13
        case h3_13 => (intro wS hSw; go_simp; all_goals (with_reducible rfl))
        simp only [Act.put, List.setIfInBounds_toArray, List.set_cons_zero, List.set_cons_succ]
        refine take_drop (i := 5) (v := ?v5_13) rfl (by kernel_rfl) (by kernel_rfl) (by kernel_rfl) (fun _ _ _ h => h) (Or.inl ⟨by rfl, ?h5_13⟩) hHeld ?r5_13
        case h5_13 => (intro wS hSw; go_simp; all_goals (with_reducible rfl))
        simp only [Act.put, List.setIfInBounds_toArray, List.set_cons_zero, List.set_cons_succ]
        refine take_drop (i := 6) (v := ?v6_13) rfl (by kernel_rfl) (by kernel_rfl) (by kernel_rfl) (fun _ _ _ h => h) (Or.inl ⟨by rfl, ?h6_13⟩) hHeld ?r6_13
        case h6_13 => (intro wS hSw; go_simp; all_goals (with_reducible rfl))
        simp only [Act.put, List.setIfInBounds_toArray, List.set_cons_zero, List.set_cons_succ]
        refine take_drop (i := 7) (v := ?v7_13) rfl (by kernel_rfl) (by kernel_rfl) (by kernel_rfl) (fun _ _ _ h => h) (Or.inl ⟨by rfl, ?h7_13⟩) hHeld ?r7_13
        case h7_13 => (intro wS hSw; go_simp; all_goals (with_reducible rfl))
        simp only [Act.put, List.setIfInBounds_toArray, List.set_cons_zero, List.set_cons_succ]
        refine take_drop (i := 8) (v := ?v8_13) rfl (by kernel_rfl) (by kernel_rfl) (by kernel_rfl) (fun _ _ _ h => h) (Or.inl ⟨by rfl, ?h8_13⟩) hHeld ?r8_13
        case h8_13 => (intro wS hSw; go_simp; all_goals (with_reducible rfl))
        simp only [Act.put, List.setIfInBounds_toArray, List.set_cons_zero, List.set_cons_succ]
        refine wpAnyH_ready (rs := [4]) (by kernel_rfl) (by simp) ?_
        refine do_drop (i := 4) rfl (fun K hK => ?_) AllReadyH.nil
        go_simp
        refine HQ.out.mono ?_
        rintro e w9 ⟨⟨qa, qc, rfl, hq1, hq2, hq3, hq4⟩, hO9⟩
        have cq2 := hq4.cell hHeld (fun h => h)
        have HI9 := Lib.hid (ints_c qa xa qc xc Q Q w9 (by rw [HQN.out]; omega) (by rw [HQN.out]; omega) hq3 ((HIX.out.keep (Fr.refl No wc).drew).keep hq4))
        rewrite [show sameI Q Q = true by unfold sameI; simp, HQN.out] at HI9
        have HO9 := Lib.hid hO9
        have HB9 := Lib.hid (HB8.out.quiet (keepsRf _ _ _) hq4)
        clear hq1 hq2 hq3 hq4 hO9
        refine hK.out _ _ cq2 ?_
        clear hK K
        try simp only [Act.put, List.setIfInBounds_toArray, List.set_cons_zero, List.set_cons_succ]
        refine wpAnyH_ready (rs := [9]) (by kernel_rfl) (by simp) ?_
        refine do_drop (i := 9) rfl (fun K hK => ?_) AllReadyH.nil
        go_simp
        refine HI9.out.mono ?_
        rintro e w10 ⟨rfl, f10⟩
        have cq3 := f10.cell cq2 (fun h => h)
        have HOa := Lib.hid (HO9.out.keep HM.out HA.out f10)
        have HBa := Lib.hid (HB9.out.quiet (keepsRf _ _ _) f10)
        clear f10
        refine hK.out _ _ cq3 ?_
        clear hK K
        try simp only [Act.put, List.setIfInBounds_toArray, List.set_cons_zero, List.set_cons_succ]
        refine take_drop (i := 10) (v := ?v10_13) rfl (by kernel_rfl) (by kernel_rfl) (by kernel_rfl) (fun _ _ _ h => h) (Or.inl ⟨by rfl, ?h10_13⟩) cq3 ?r10_13
        case h10_13 => (intro wS hSw; go_simp; all_goals (with_reducible rfl))
        simp only [Act.put, List.setIfInBounds_toArray, List.set_cons_zero, List.set_cons_succ]
        refine take_drop (i := 11) (v := ?v11_13) rfl (by kernel_rfl) (by kernel_rfl) (by kernel_rfl) (fun _ _ _ h => h) (Or.inl ⟨by rfl, ?h11_13⟩) cq3 ?r11_13
        case h11_13 => (intro wS hSw; go_simp; all_goals (with_reducible rfl))
        simp only [Act.put, List.setIfInBounds_toArray, List.set_cons_zero, List.set_cons_succ]
        refine wpAnyH_done (by kernel_rfl) ?_ _
        clear hHeld cq2 cq3
        try (clear hHeld)
        have c0 := HXC.out _ HBa.out
        clear cq HIX
        go_wp2_with fail
        clear c0
        go_loopw [266] (fun i wq => ∃ (k : Nat), i = .int .i64 k ∧ k ≤ Z ∧ Own2 D T W wq t F6 b6 d G6 m6 ∧ Bes (Rf (gr + 1) gr b6) W wq F6 G6) (fun i _ => Z - (intOf i).toNat)
        case atStart => exact ⟨0, rfl, Nat.zero_le _, HOa.out, HBa.out⟩
        case round =>
          clear HOa HBa
          obtain ⟨k, rfl, hk, hO, hB⟩ := hrel
          have HO := Lib.hid hO
          have HB := Lib.hid hB
          clear hO hB
          by_cases h2 : k < Z
          · have d1 : decide ((k : Int) < (Z : Int)) = true := by rw [decide_eq_true_eq]; omega
            have ck := HXK.out k h2 _ HB.out
            have HC := Lib.hid (HO.out.tb.role HA.out (z := (k : Int)) (wf_small (by omega) (by omega)))
            rewrite [roleD HBL8.out h2] at HC
            generalize ((b6.r.getD k 0 : Nat) : Int) = rv at *
            have dr : (rv == rv) = true := by simp
            go_wp2_with fail
            refine HC.out.mono ?_
            rintro e w11 ⟨rfl, _, f11⟩
            have HREL := Lib.hid (And.intro (HO.out.keep HM.out HA.out f11) (HB.out.quiet (keepsRf _ _ _) f11))
            clear f11 HC HO HB ck
            go_wp2_with fail
            go_roundw
            case rel => exact ⟨k + 1, by simp, by omega, HREL.out.1, HREL.out.2⟩
            case measure => simp [intOf]; omega
          · obtain rfl : k = Z := by omega
            have d1 : decide ((k : Int) < (k : Int)) = false := by simp
            go_wp2_with fail
            clear d1
            go_loopw [22] (fun i wq => ∃ (rv : Int), i = .int .i64 rv ∧ -1 ≤ rv ∧ rv ≤ 8 ∧ Own2 D T W wq t F6 b6 d G6 m6 ∧ Bes (Rf (gr + 1) gr b6) W wq F6 G6) (fun i _ => (8 - intOf i).toNat)
            case atStart => exact ⟨-1, rfl, by omega, by omega, HO.out, HB.out⟩
            case round =>
              clear HO HB
              obtain ⟨rv, rfl, hrv, hr9, hO, hB⟩ := hrel
              have HO := Lib.hid hO
              have HB := Lib.hid hB
              clear hO hB
              by_cases h3 : rv ≤ 7
              · have d1 : decide (rv ≤ 7) = true := decide_eq_true h3
                have hwr : wf64 rv := wf_small (by omega) (by omega)
                have HL : Hid (Calls Try.prog 23 #[.pointer (some ⟨gr + 1, 0, none⟩), .int .i64 rv] wr (IntsRet (listT b6 rv) wr)) := Lib.hid (by
                  obtain ⟨S, hr, _⟩ := HB.out
                  exact rfList_c hr HO.out.tb.wt rv)
                unfold IntsRet at HL
                have HCN := Lib.hid (fun (w : World) (h : Own2 D T W w t F6 b6 d G6 m6) => h.tb.count HA.out hwr)
                rewrite [count_list] at HCN
                have HLI := Lib.hid (fun (w : World) (h : Own2 D T W w t F6 b6 d G6 m6) => by
                  have := h.list HM.out HA.out hwr
                  unfold IntsRet at this
                  exact this)
                have hll := list_len b6 rv
                obtain ⟨L, hL⟩ : ∃ L, (listT b6 rv).map (fun (x : Nat) => (x : Int)) = L := ⟨_, rfl⟩
                obtain ⟨ln, hln⟩ : ∃ n, (listT b6 rv).length = n := ⟨_, rfl⟩
                have hLn : L.length = ln := by rw [← hL, List.length_map, hln]
                rewrite [hln, hL] at HL
                rewrite [hln, hL] at HLI
                rewrite [hln] at HCN
                rewrite [hln, HBL8.out] at hll
                have HLN := Lib.hid hLn
                have dl : ((ln : Int) == (ln : Int)) = true := by simp
                clear hL hln hLn
                go_wp2_with fail
                refine HL.out.mono ?_
                rintro e w11 ⟨la, lc, rfl, hl1, hl2, hl3, hl4⟩
                have HI11 := Lib.hid hl3
                have HO11 := Lib.hid (HO.out.keep HM.out HA.out hl4)
                have HB11 := Lib.hid (HB.out.quiet (keepsRf _ _ _) hl4)
                have HC := Lib.hid (HCN.out _ HO11.out)
                clear hl3 hl4 HL HO HB HCN
                go_wp2_with fail
                refine HC.out.mono ?_
                rintro e w12 ⟨rfl, _, f12⟩
                have HI12 := Lib.hid (HI11.out.keep f12)
                have HO12 := Lib.hid (HO11.out.keep HM.out HA.out f12)
                have HB12 := Lib.hid (HB11.out.quiet (keepsRf _ _ _) f12)
                have HL2 := Lib.hid (HLI.out _ HO12.out)
                clear f12 HC HI11 HO11 HB11 HLI
                go_wp2_with fail
                refine HL2.out.mono ?_
                rintro e w13 ⟨⟨ma, mc, rfl, hm1, hm2, hm3, hm4⟩, hO13⟩
                have HO13 := Lib.hid hO13
                have HB13 := Lib.hid (HB12.out.quiet (keepsRf _ _ _) hm4)
                have HI13 := Lib.hid (ints_c ma la mc lc L L w13 (by rw [HLN.out]; omega) (by rw [HLN.out]; omega) hm3 (HI12.out.keep hm4))
                rewrite [show sameI L L = true by unfold sameI; simp, HLN.out] at HI13
                clear hm3 hm4 hO13 HL2 HI12 HO12 HB12
                go_wp2_with fail
                refine HI13.out.mono ?_
                rintro e w14 ⟨rfl, f14⟩
                have HREL := Lib.hid (And.intro (HO13.out.keep HM.out HA.out f14) (HB13.out.quiet (keepsRf _ _ _) f14))
                clear f14 HI13 HO13 HB13
                go_wp2_with fail
                go_roundw
                case rel => exact ⟨rv + 1, rfl, by omega, by omega, HREL.out.1, HREL.out.2⟩
                case measure => simp [intOf]; omega
              · have d1 : decide (rv ≤ 7) = false := decide_eq_false h3
                go_wp2_with fail
                go_roundw
                case rel => exact ⟨j + 1, F6, b6, G6, m6, by simp, by omega, HO.out, HBL8.out, hd8, HB.out⟩
                case measure => simp [intOf]; omega
    · obtain rfl : j = N := by omega
      have d1 : decide ((j : Int) < (j : Int)) = false := by simp
      obtain ⟨o1, o2⟩ := role_out b
      have HC := Lib.hid (HO.out.role HM.out HA.out (z := -1) (wf_small (by omega) (by omega)))
      rewrite [o1] at HC
      have HC2 := Lib.hid (fun (w : World) (F G : Nat → Prop) (h : Own2 D T W w t F b d G m) => by
        have := h.role HM.out HA.out (z := (Z : Int)) (wf_small (by have := HZ.out.2; omega) (by have := HZ.out.2; omega))
        rewrite [o2 Z HBLN.out] at this
        exact this)
      clear o1 o2
      go_wp2_with fail
      refine HC.out.mono ?_
      rintro e w3 ⟨rfl, F3, G3, h3, _, _, _⟩
      have HC3 := Lib.hid (HC2.out _ _ _ h3)
      clear h3 HC HC2
      go_wp2_with fail
      refine HC3.out.mono ?_
      rintro e w4 ⟨rfl, F4, G4, h4, _, _, _⟩
      have H4 := Lib.hid h4.fr
      clear h4 HC3
      go_wp2_with fail
      refine (awake_c HA.out _).mono ?_
      rintro e w5 ⟨rfl, f5⟩
      have HF5 := Lib.hid (H4.out.trans f5)
      clear f5
      go_wp2_with fail
      go_ret
      exact ⟨rfl, FIN.out _ HF5.out⟩
end
end Go.Proofs.Ytmkadpjacidlkaa
