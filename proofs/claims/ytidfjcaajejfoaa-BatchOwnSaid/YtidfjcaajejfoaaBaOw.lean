/-
  Layer 10: BatchOwn.
-/
import Derived.Test.YtidfjcaajejfoaaBaFi
import Derived.Test.YtidfjcaajejfoaaBaE
namespace Go.Proofs.Ytidfjcaajejfoaa
set_option linter.unusedVariables false
open Go.RowKit

theorem not_u8b (x : UInt8) : bits .xor .u8 255 (x.toNat : Int) = ((~~~x).toNat : Int) := by
  have : ∀ y : Fin 256, bits .xor .u8 255 (y.val : Int) = ((255 - y.val : Nat) : Int) := by decide +kernel
  have h := this ⟨x.toNat, x.toNat_lt⟩
  rw [h]
  congr 1
  rw [UInt8.toNat_not]
  rfl
theorem bytesO_len {q : Int} {l : List Op10} (h : allO q l = true) : 1 ≤ (bytesO q l).length ∧ (bytesO q l).length ≤ 1000000 := by
  obtain ⟨h1, h2, h3, h4, h5⟩ := allO_parts h
  unfold bytesO
  rw [h, if_pos rfl, batchB_len]
  have e1 := enc_len9 (show q.toNat < 9223372036854775808 by omega)
  have e2 := enc_len9 (show l.length < 9223372036854775808 by omega)
  have e4 := enc_pos q.toNat
  have e3 := opsB_len l fun x hx => by
    obtain ⟨_, b, c, _⟩ := rightO_parts (h5 x hx)
    omega
  omega
/-- What is parsed of a right batch's bytes. -/
theorem parse_same {q : Int} {l : List Op10} (h : allO q l = true) {w w' : World} {e : Ending} (hp : ParseR (bytesO q l) w e w') :
    Fr No w w' ∧ ∃ v, e = .returned (.tuple #[.agg #[.int .i64 q, v], .int .i64 0]) ∧ RowG w' (Gr No w w') 30 3 v l.length (opsC l) := by
  have hb : bytesO q l = batchB q.toNat l := by unfold bytesO; rw [h, if_pos rfl]
  rw [hb] at hp
  obtain ⟨hf, ⟨q', l', v, h1, h2, h3, h4, h5⟩ | ⟨h1, _⟩⟩ := hp
  · obtain ⟨rfl, rfl⟩ := batchB_inj h1 h h3
    exact ⟨hf, v, h4, h5⟩
  · exact absurd rfl (h1 q l h)
/-- What lies in blocks of its own stays where bytes of another block are turned. -/
theorem Ops.stay {w w' : World} {S : Nat → Prop} {g : Nat} {a : Option Addr} {l : List Op10} (h : Ops w S a l) (f : Fr (One g) w w') (hn : ¬ S g) : Ops w' S a l := h.keep f fun k hk h => hn (by unfold One at h; exact h ▸ hk)
theorem RowG.opsN {w : World} {S : Nat → Prop} {e : TypeId} {a : Option Addr} {n c : Nat} {l : List Op10} (hn : l.length = n) (h : RowG w S e 3 (.slice a n c) n (opsC l)) : Ops w S a l := by
  subst hn
  obtain ⟨a', cap, e1, _, _, h'⟩ := h.ops
  injection e1 with e2 e3 e4
  subst e2
  exact h'
/-- The key of the first op, where it is stored. -/
theorem RowG.first {w : World} {S : Nat → Prop} {e : TypeId} {d n c : Nat} {l : List Op10} (h : RowG w S e 3 (.slice (some ⟨d, 0, none⟩) n c) n (opsC l)) (hn : 1 ≤ n) :
    w.frozen? ⟨d, 1, none⟩ = false := by
  obtain ⟨a', cap, e1, _, _, _, h'⟩ := h.form
  injection e1 with e2 e3 e4
  obtain ⟨b, _, hb, hc⟩ := h' (by omega)
  rw [← e2] at hb
  have hb := congrArg Addr.block (Option.some.inj hb)
  have hb : d = b := hb
  subst hb
  exact (hc 1 (by omega)).2
theorem RowG.firstC {w : World} {S : Nat → Prop} {e : TypeId} {d n c : Nat} {l : List Op10} (h : RowG w S e 3 (.slice (some ⟨d, 0, none⟩) n c) n (opsC l)) (hn : 1 ≤ n) (hl : l.length = n) :
    ∃ s, w.cell? ⟨d, 1, none⟩ = some (.string s) := by
  obtain ⟨a', cap, e1, _, _, _, h'⟩ := h.form
  injection e1 with e2 e3 e4
  obtain ⟨b, _, hb, hc⟩ := h' (by omega)
  rw [← e2] at hb
  have hb := congrArg Addr.block (Option.some.inj hb)
  have hb : d = b := hb
  subst hb
  have h1 := (hc 1 (by omega)).1
  have h2 := (opsC_get l 0 (by omega)).2.1
  exact ⟨_, h1.trans h2⟩
set_option maxRecDepth 20000 in
set_option maxHeartbeats 3200000 in
theorem bown_c (H : BatchOK) (w : World) (q : Int) (a : Option Addr) (ca : Nat) (l : List Op10) (wq : (Lit.int .i64 q).wf = true) (h1 : l.length ≤ ca) (h2 : ca ≤ maxLen) (hi : Ops w (fun _ => True) a l) (hwf : ∀ x ∈ l, OpWf x) :
    Calls Try.prog 8 #[.agg #[.int .i64 q, .slice a l.length ca]] w (Ask (.bool true) w) := by
  have h1' : l.length ≤ maxLen := Nat.le_trans h1 h2
  obtain ⟨W, hW, hfW, m0, m1⟩ := box_batch w q (.slice a l.length ca)
  have hi0 : Ops w (fun k => k < w.heap.size) a l := hi.sub fun k hk _ => hk
  have HS := Lib.hid (small10_c q a ca l W h1' (hi.keep hfW fun _ _ h => h))
  have HCH := Lib.hid (fun (w' : World) (f : Fr No w w') => H.check q a ca l w' _ wq h1 h2 (hi.keep f fun _ _ h => h) hwf)
  have HBY := Lib.hid (fun (w' : World) (f : Fr No w w') => H.bytes q a ca l w' _ wq h1 h2 (hi.keep f fun _ _ h => h) hwf)
  have HPL := Lib.hid (fun (h : allO q l = true) => (allO_parts h).1)
  have HPL2 := Lib.hid (fun (h : allO q l = true) => (allO_parts h).2.1)
  have HSM := Lib.hid (fun (a' : Option Addr) (c' : Nat) (w' : World) (S S' : Nat → Prop) (h64 : l.length ≤ 1000000) (x : Ops w' S a l) (y : Ops w' S' a' l) => same10_yes q a a' ca c' l.length l w' S S' rfl h64 x y)
  obtain ⟨n, hn⟩ : ∃ n, l.length = n := ⟨_, rfl⟩
  rw [hn] at h1 HS HCH HBY HPL HPL2 HSM m1 hW ⊢
  have HH := Lib.hid H
  have HW := Lib.hid hW
  have HFW := Lib.hid hfW
  have HI := Lib.hid hi0
  have HN := Lib.hid hn
  clear hW hfW hi hi0 hn h1 h2 h1' H hwf
  cases hs : small10 l with
  | false =>
    rw [hs] at HS
    go_enter Try.func8, Try.ntmps8
    go_wp2_with fail
    rw [HW.out]
    go_wp2_with fail
    refine HS.out.mono ?_
    rintro e w1 ⟨rfl, hf1⟩
    have HF1 := Lib.hid (HFW.out.trans hf1)
    clear hf1
    go_wp2_with fail
    refine (awake10_c HH.out _).mono ?_
    rintro e w5 ⟨rfl, hf5⟩
    have HF5 := Lib.hid hf5
    clear hf5
    go_wp2_with fail
    go_ret
    exact ⟨rfl, HF1.out.trans HF5.out⟩
  | true =>
    rw [hs] at HS
    cases hall : allO q l with
    | false =>
      have hE : errO (allO q l) = .int .i64 100 := by rw [hall]; rfl
      rw [hE] at HCH
      clear hE hall HBY HPL HPL2 HSM
      go_enter Try.func8, Try.ntmps8
      go_wp2_with fail
      rw [HW.out]
      go_wp2_with fail
      refine HS.out.mono ?_
      rintro e w1 ⟨rfl, hf1⟩
      have HF1 := Lib.hid (HFW.out.trans hf1)
      have o0 := hf1.cell m0 (fun h => h)
      have o1 := hf1.cell m1 (fun h => h)
      clear hf1 m0 m1 HS HW
      go_wp2_with fail
      refine (HCH.out w1 HF1.out).mono ?_
      rintro e w2 ⟨rfl, hf2⟩
      have HF2 := Lib.hid (HF1.out.trans hf2)
      clear hf2
      go_wp2_with fail
      refine (awake10_c HH.out _).mono ?_
      rintro e w5 ⟨rfl, hf5⟩
      have HF5 := Lib.hid hf5
      clear hf5
      go_wp2_with fail
      go_ret
      exact ⟨rfl, HF2.out.trans HF5.out⟩
    | true =>
      have hE : errO (allO q l) = .int .i64 0 := by rw [hall]; rfl
      rw [hE] at HCH
      obtain ⟨b1, b2⟩ := bytesO_len hall
      have HBYR := Lib.hid hE
      have hn1 := HPL.out hall
      have hn64 := HPL2.out hall
      have HPS := Lib.hid (fun (w w' : World) (e : Ending) (hp : ParseR (bytesO q l) w e w') => parse_same hall hp)
      have HPA := Lib.hid (fun (g m c : Nat) (w' : World) (hm : (bytesO q l).length = m) (hc : m ≤ c) (hc' : c ≤ maxLen) (hm' : m ≤ 1000000) (hr : Rd w' (some ⟨g, 0, none⟩) (bytesO q l)) => HH.out.parse (some ⟨g, 0, none⟩) c m (bytesO q l) w' hm hc hc' hm' hr)
      unfold BytesR at HBY
      rw [hE] at HBY
      rw [HN.out] at HPS
      obtain ⟨X, hX⟩ : ∃ X, bytesO q l = X := ⟨_, rfl⟩
      rw [hX] at b1 b2 HPS HPA HBY
      clear hE HPL HPL2 hall hX HBYR
      go_enter Try.func8, Try.ntmps8
      go_wp2_with fail
      rw [HW.out]
      go_wp2_with fail
      refine HS.out.mono ?_
      rintro e w1 ⟨rfl, hf1⟩
      have HF1 := Lib.hid (HFW.out.trans hf1)
      have o0 := hf1.cell m0 (fun h => h)
      have o1 := hf1.cell m1 (fun h => h)
      clear hf1 m0 m1 HS HW
      go_wp2_with fail
      refine (HCH.out w1 HF1.out).mono ?_
      rintro e w2 ⟨rfl, hf2⟩
      have HF2 := Lib.hid (HF1.out.trans hf2)
      have p0 := hf2.cell o0 (fun h => h)
      have p1 := hf2.cell o1 (fun h => h)
      clear hf2 o0 o1 HCH HF1
      go_wp2_with fail
      refine (HBY.out w2 HF2.out).mono ?_
      rintro e w3 ⟨v3, rfl, hrow3, hf3⟩
      have HF3 := Lib.hid (HF2.out.trans hf3)
      have q0 := hf3.cell p0 (fun h => h)
      have q1 := hf3.cell p1 (fun h => h)
      have hB2 : w.heap.size < w2.heap.size := cell_block p0
      obtain ⟨m, hm⟩ : ∃ m, X.length = m := ⟨_, rfl⟩
      obtain ⟨g, c3, hv3, hg3, k1, k2, _, _, _⟩ := hrow3.at_ (i := 0) (by omega)
      subst hv3
      have hg4 : w2.heap.size ≤ g ∧ g < w3.heap.size := by
        rcases hg3 with h | h
        · exact h.elim
        · exact h
      have hrowg : Row w3 (One g) (.slice (some ⟨g, 0, none⟩) X.length c3) X := ⟨hrow3.1, fun k hk => (Option.some.inj hk).symm⟩
      rw [hm] at hrowg k1 b1 b2 ⊢
      have HRW := Lib.hid hrowg
      have HM := Lib.hid hm
      have HK1 := Lib.hid k1
      have HK2 := Lib.hid k2
      obtain ⟨B, hB⟩ : ∃ B, w.heap.size = B := ⟨_, rfl⟩
      have HB := Lib.hid hB
      rw [hB] at q0 q1 hB2 HI ⊢
      have hrd3 : Rd w3 (some ⟨g, 0, none⟩) X := by
        obtain ⟨a', c', e1, _, _, e2⟩ := hrow3.form
        injection e1 with e3 e4 e5
        subst e3
        exact e2.rd
      have HRD := Lib.hid hrd3
      clear hf3 p0 p1 HBY hrow3 hg3 hrowg hm hrd3 hB k1 k2
      go_wp2_with fail
      refine (HPA.out g m c3 w3 HM.out HK1.out HK2.out b2 HRD.out).mono ?_
      intro e w4 hp4
      obtain ⟨hf4, v4, rfl, hrow4⟩ := HPS.out _ _ _ hp4
      obtain ⟨a4, c4, rfl, k3, k4, _, hcells4⟩ := hrow4.form
      obtain ⟨d, hd, rfl, hcells4⟩ := hcells4 (by omega)
      have hd4 : w3.heap.size ≤ d ∧ d < w4.heap.size := by
        rcases hd with h | h
        · exact h.elim
        · exact h
      have r0 := hf4.cell q0 (fun h => h)
      have r1 := hf4.cell q1 (fun h => h)
      obtain ⟨W4, hW4, hfW4, s0, s1⟩ := box_batch w4 q (.slice (some ⟨d, 0, none⟩) n c4)
      have r0 := hfW4.cell r0 (fun h => h)
      have r1 := hfW4.cell r1 (fun h => h)
      have HRD4 := Lib.hid (HRD.out.keep (hf4.trans hfW4))
      have hrow4' : RowG w4 (One d) 30 3 (.slice (some ⟨d, 0, none⟩) n c4) n (opsC l) := ⟨hrow4.1, fun k hk => (Option.some.inj hk).symm⟩
      have HR4 := Lib.hid (hrow4'.keep hfW4 fun _ _ h => h)
      have HF4 := Lib.hid (hf4.trans hfW4)
      have HW4 := Lib.hid hW4
      obtain ⟨C, hC⟩ : ∃ C, w4.heap.size = C := ⟨_, rfl⟩
      rw [hC] at s0 s1 hd4
      have HC := Lib.hid hC
      have hg5 : g < C := by have := hf4.size; omega
      clear hf4 hrow4 hrow4' hd hcells4 hp4 q0 q1 hfW4 hW4 hC k3 k4 HRD
      go_wp2_with fail
      rw [HW4.out, HC.out]
      go_wp2_with fail
      refine (HPA.out g m c3 W4 HM.out HK1.out HK2.out b2 HRD4.out).mono ?_
      intro e w5 hp5
      obtain ⟨hf5, v5, rfl, hrow5⟩ := HPS.out _ _ _ hp5
      obtain ⟨a5, c5, rfl, k3, k4, _, hcells5⟩ := hrow5.form
      obtain ⟨d5, hd, rfl, hcells5⟩ := hcells5 (by omega)
      have hC4 := cell_block s0
      have hd5 : W4.heap.size ≤ d5 ∧ d5 < w5.heap.size := by
        rcases hd with h | h
        · exact h.elim
        · exact h
      have r0 := hf5.cell r0 (fun h => h)
      have r1 := hf5.cell r1 (fun h => h)
      have s0 := hf5.cell s0 (fun h => h)
      have s1 := hf5.cell s1 (fun h => h)
      obtain ⟨W5, hW5, hfW5, t0, t1⟩ := box_batch w5 q (.slice (some ⟨d5, 0, none⟩) n c5)
      have r0 := hfW5.cell r0 (fun h => h)
      have r1 := hfW5.cell r1 (fun h => h)
      have s0 := hfW5.cell s0 (fun h => h)
      have s1 := hfW5.cell s1 (fun h => h)
      have hrow5' : RowG w5 (One d5) 30 3 (.slice (some ⟨d5, 0, none⟩) n c5) n (opsC l) := ⟨hrow5.1, fun k hk => (Option.some.inj hk).symm⟩
      have HR5 := Lib.hid (hrow5'.keep hfW5 fun _ _ h => h)
      have HR4' := Lib.hid (HR4.out.keep (hf5.trans hfW5) fun _ _ h => h)
      have HF5 := Lib.hid (HF4.out.trans (hf5.trans hfW5))
      have HRW5 := Lib.hid (HRW.out.keep HF5.out fun _ _ h => h)
      have HI5 := Lib.hid (HI.out.keep (HF3.out.trans HF5.out) fun _ _ h => h)
      have HFA := Lib.hid (HF3.out.trans HF5.out)
      have HW5 := Lib.hid hW5
      obtain ⟨D, hD⟩ : ∃ D, w5.heap.size = D := ⟨_, rfl⟩
      rw [hD] at t0 t1 hd5
      have HD := Lib.hid hD
      have hg6 : B < g ∧ g < d ∧ d < C ∧ C < d5 ∧ d5 < D := by
        simp only at hC4
        omega
      clear hf5 hrow5 hrow5' hd hcells5 hp5 hfW5 hW5 hD k3 k4 HRD4 HR4 HF4 HRW HI HF3 HPA HPS hC4 hd5 hd4 hg5 hg4 hB2 HF5
      go_wp2_with fail
      rw [HW5.out, HD.out]
      go_wp2_with fail
      go_loopw [36] (fun i wr => ∃ (k : Nat) (Y : List UInt8), i = .int .i64 k ∧ k ≤ m ∧ Y.length = m ∧ Row wr (One g) (.slice (some ⟨g, 0, none⟩) m c3) Y ∧ Fr (One g) W5 wr) (fun i _ => m - (intOf i).toNat)
      case atStart => exact ⟨0, X, rfl, Nat.zero_le _, HM.out, HRW5.out, Fr.refl _ _⟩
      case round =>
        obtain ⟨k, Y, rfl, hkm, hY, hrow, hfr⟩ := hrel
        by_cases hlt : k < m
        · obtain ⟨g', c', hv', _, _, _, c0, c1', hset⟩ := hrow.at_ (i := k) (by omega)
          injection hv' with hv1 hv2 hv3
          have hv1 := congrArg Addr.block (Option.some.inj hv1)
          have hv1 : g = g' := hv1
          subst hv1
          obtain ⟨z, hz⟩ : ∃ z : UInt8, z = ~~~ (Y.getD k 0) := ⟨_, rfl⟩
          have HE : Hid (bits BinOp.xor IntKind.u8 (if IntKind.u8.signed = true then -1 else IntKind.u8.max) ((Y.getD k 0).toNat : Int) = (z.toNat : Int)) := Lib.hid (by rw [hz]; exact not_u8b (Y.getD k 0))
          obtain ⟨hrow2, f2⟩ := hset z
          have HRo := Lib.hid hrow2
          have HF2 := Lib.hid (hfr.trans f2)
          have HY2 : Hid ((Y.set k z).length = m) := Lib.hid (by rw [List.length_set]; exact hY)
          have hx := (Y.getD k 0).toNat_lt
          generalize Y.getD k 0 = x at *
          have Hz := Lib.hid hz
          clear hset hrow2 f2 hz hv2 hv3 hY hrow hfr
          go_wp2_with fail
          go_roundw
          case rel => exact ⟨k + 1, _, by go_num, by omega, HY2.out, by rw [HE.out]; exact HRo.out, by rw [HE.out]; exact HF2.out⟩
          case measure => simp [intOf]; omega
        · have hB1 : ¬ One g B := by unfold One; omega
          have hC1 : ¬ One g C := by unfold One; omega
          have hD1 : ¬ One g D := by unfold One; omega
          have r0 := hfr.cell r0 hB1
          have r1 := hfr.cell r1 hB1
          have s0 := hfr.cell s0 hC1
          have s1 := hfr.cell s1 hC1
          have t0 := hfr.cell t0 hD1
          have t1 := hfr.cell t1 hD1
          have HI6 := Lib.hid (HI5.out.stay hfr (by omega))
          have HR46 := Lib.hid (HR4'.out.keep hfr fun k hk h => by unfold One at hk h; omega)
          have HR56 := Lib.hid (HR5.out.keep hfr fun k hk h => by unfold One at hk h; omega)
          have HFR := Lib.hid hfr
          have hn6 : n ≤ 1000000 := by omega
          clear hrow hfr hB1 hC1 hD1 HI5 HR4' HR5 HRW5
          go_wp2_with fail
          refine (HSM.out (some ⟨d, 0, none⟩) c4 wr _ _ hn6 HI6.out (HR46.out.opsN HN.out)).mono ?_
          rintro e w7 ⟨rfl, hf7⟩
          have r0 := hf7.cell r0 (fun h => h)
          have r1 := hf7.cell r1 (fun h => h)
          have s0 := hf7.cell s0 (fun h => h)
          have s1 := hf7.cell s1 (fun h => h)
          have t0 := hf7.cell t0 (fun h => h)
          have t1 := hf7.cell t1 (fun h => h)
          have HI7 := Lib.hid (HI6.out.keep hf7 fun _ _ h => h)
          have HR47 := Lib.hid (HR46.out.keep hf7 fun _ _ h => h)
          have HR57 := Lib.hid (HR56.out.keep hf7 fun _ _ h => h)
          have HF7 := Lib.hid hf7
          clear hf7 HI6 HR46 HR56
          go_wp2_with fail
          refine (HSM.out (some ⟨d5, 0, none⟩) c5 w7 _ _ hn6 HI7.out (HR57.out.opsN HN.out)).mono ?_
          rintro e w8 ⟨rfl, hf8⟩
          have r0 := hf8.cell r0 (fun h => h)
          have r1 := hf8.cell r1 (fun h => h)
          have s0 := hf8.cell s0 (fun h => h)
          have s1 := hf8.cell s1 (fun h => h)
          have t0 := hf8.cell t0 (fun h => h)
          have t1 := hf8.cell t1 (fun h => h)
          have HI8 := Lib.hid (HI7.out.keep hf8 fun _ _ h => h)
          have HR48 := Lib.hid (HR47.out.keep hf8 fun _ _ h => h)
          have HR58 := Lib.hid (HR57.out.keep hf8 fun _ _ h => h)
          have HF8 := Lib.hid (HF7.out.trans hf8)
          clear hf8 HI7 HR47 HR57 HF7
          have hfz := HR48.out.first hn1
          obtain ⟨so, hso⟩ := HR48.out.firstC hn1 HN.out
          obtain ⟨U, hU⟩ : ∃ U, w8.setCell ⟨d, 1, none⟩ (.string ⟨#[111, 116, 104, 101, 114]⟩) = U := ⟨_, rfl⟩
          have hfU : Fr (One d) w8 U := by rw [← hU]; exact (Fr.refl (One d) w8).setCell (p := ⟨d, 1, none⟩) (fun _ => rfl) _
          have hB1 : ¬ One d B := by unfold One; omega
          have hD1 : ¬ One d D := by unfold One; omega
          have u0 := hfU.cell r0 hB1
          have u1 := hfU.cell r1 hB1
          have v0 := hfU.cell t0 hD1
          have v1 := hfU.cell t1 hD1
          have HIU := Lib.hid (HI8.out.stay hfU (by omega))
          have HRU := Lib.hid (HR58.out.keep hfU fun k hk h => by unfold One at hk h; omega)
          have HFU := Lib.hid hfU
          have HU := Lib.hid hU
          clear hfU hB1 hD1 HI8 HR48 HR58 hU t0 t1 r0 r1
          rw [← HU.out] at u0 u1 v0 v1
          have hBw : w.heap.size ≤ B := by rw [HB.out]; exact Nat.le_refl _
          go_wp2_with fail
          rw [HU.out]
          refine (HSM.out (some ⟨d5, 0, none⟩) c5 U _ _ hn6 HIU.out (HRU.out.opsN HN.out)).mono ?_
          rintro e w9 ⟨rfl, hf9⟩
          have HF9 := Lib.hid hf9
          clear hf9
          go_wp2_with fail
          refine (awake10_c HH.out _).mono ?_
          rintro e w10 ⟨rfl, hf10⟩
          have HF10 := Lib.hid hf10
          clear hf10
          go_wp2_with fail
          go_ret
          refine ⟨rfl, (((HFA.out.then_ HFR.out fun x hx h => ?_).trans HF8.out).then_ HFU.out fun x hx h => ?_).trans (HF9.out.trans HF10.out)⟩
          · unfold One at h; omega
          · unfold One at h; omega
theorem batchOwn_walk (H : BatchOK) (w : World) (q : Int) (wq : (Lit.int .i64 q).wf = true) (a : Option Addr) (ca : Nat) (l : List Op10) (h1 : l.length ≤ ca) (h2 : ca ≤ maxLen) (hi : Ops w (fun _ => True) a l) (hwf : ∀ x ∈ l, OpWf x) :
    Calls Try.prog 8 #[.agg #[.int .i64 q, .slice a l.length ca]] w fun e w' => e = .returned (.bool true) ∧ Below w.heap.size w w' := (bown_c H w q a ca l wq h1 h2 hi hwf).mono fun _ _ h => h.below
end Go.Proofs.Ytidfjcaajejfoaa
