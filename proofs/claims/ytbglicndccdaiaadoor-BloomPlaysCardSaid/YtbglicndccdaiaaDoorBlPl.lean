/-
  The walk of the statement BloomPlays.
-/
import Derived.Test.YtbglicndccdaiaaDoorBlZ
namespace Go.Proofs.YtbglicndccdaiaaDoor
set_option linter.unusedVariables false
set_option linter.unusedSimpArgs false
open Go.RowKit

theorem count_take (l : List Bool) (k : Nat) (h : k < l.length) : (l.take (k + 1)).count true = (l.take k).count true + (if l.getD k false = true then 1 else 0) := by
  rw [List.take_add_one, List.count_append]
  congr 1
  simp only [List.getD_eq_getElem?_getD, List.getElem?_eq_getElem h, Option.toList, Option.getD_some]
  cases l[k] <;> rfl
theorem not_u8 (v : Nat) (hv : v < 256) : ∃ d : UInt8, bits .xor .u8 (if IntKind.u8.signed = true then -1 else IntKind.u8.max) (v : Int) = (d.toNat : Int) := by
  have e : (if IntKind.u8.signed = true then (-1 : Int) else IntKind.u8.max) = 255 := by decide
  have h2 : 255 ^^^ v < 256 := Nat.xor_lt_two_pow (n := 8) (by decide) hv
  refine ⟨UInt8.ofNat (255 ^^^ v), ?_⟩
  rw [e, u8_xor 255 (v : Int) (by omega) (by omega) (by omega) (by omega), toNat_of _ h2]
  rfl
set_option maxRecDepth 100000 in
set_option maxHeartbeats 4000000 in
theorem bloomPlays_in (W : World) (ht : Tab W) (k e : Nat) (hk : k ≤ 65536) (he1 : 1 ≤ e) (he2 : e ≤ 32) (a : Option Addr) (cap : Nat) (l : List Tx) (hm : l.length ≤ maxLen) (hi : Texts W a l) (hsm : smallK l = true)
    (qa : Option Addr) (qn qc : Nat) (q : List UInt8) (hq : q.length = qn) (hqn : qn ≤ 500) (hqr : Rd W qa q) :
    Calls Tryd.prog 3 #[.agg #[.int .i64 (k : Int), .int .i64 (e : Int), .slice a l.length cap, .slice qa qn qc]] W (Yes W) := by
  obtain ⟨h60, h200⟩ := smallK_yes l hsm
  obtain ⟨n, hn⟩ : ∃ n, l.length = n := ⟨_, rfl⟩
  have hf0 := (Fr.refl No W).alloc (.cells #[.int .i64 (k : Int), .int .i64 (e : Int), .slice a n cap, .slice qa qn qc] 25)
  have A0 : At _ W.heap.size _ _ := At.new W 25 #[.int .i64 (k : Int), .int .i64 (e : Int), .slice a n cap, .slice qa qn qc]
  have hs0 : (W.alloc (.cells #[.int .i64 (k : Int), .int .i64 (e : Int), .slice a n cap, .slice qa qn qc] 25)).heap.size = W.heap.size + 1 := by simp
  obtain ⟨W0, hW0⟩ : ∃ W0, W.alloc (.cells #[.int .i64 (k : Int), .int .i64 (e : Int), .slice a n cap, .slice qa qn qc] 25) = W0 := ⟨_, rfl⟩
  rw [hW0] at hf0 A0 hs0
  have ht0 := ht.keep hf0
  have hi0 := hi.keep hf0
  have hq0 := hqr.keep hf0
  have CS := small_c a cap l W0 hm hi0
  rw [hsm] at CS
  have CS := Lib.hid CS
  have CN := Lib.hid (fun w => new_c k e hk he1 he2 w)
  have CRN := Lib.hid (fun w => refNew_c k e hk he1 he2 w)
  have HK := Lib.hid (fun w (f : Fr No W0 w) i (hl : i < l.length) => hi0.key2 h200 f hl)
  have HT := Lib.hid ht0
  have HQ := Lib.hid hq0
  have hN0 := sizeB_pos k e
  have hN1 := sizeB_le k e hk he2
  obtain ⟨hp1, hp2⟩ := probF_pos e he2
  have hsF := sizeF_B k e
  have CA := Lib.hid (fun w (f : Fr No W0 w) => awake_c w (ht0.keep f))
  have HF0 := Lib.hid hf0
  have HA0 := Lib.hid A0
  have HQL := Lib.hid hq
  rw [hn] at CS HK h60 ⊢
  have e1 : decide ((k : Int) < 0) = false := decide_eq_false (by omega)
  have e2 : decide (65536 < (k : Int)) = false := decide_eq_false (by omega)
  have e3 : decide ((e : Int) < 1) = false := decide_eq_false (by omega)
  have e4 : decide (32 < (e : Int)) = false := decide_eq_false (by omega)
  have e5 : decide (500 < (qn : Int)) = false := decide_eq_false (by omega)
  clear hm hi hsm ht h200 hi0 hq0 ht0 hn hqr hq
  rw [hsF] at CRN
  generalize sizeB k e = N at *
  generalize probF e = p at *
  clear hsF
  have c0 := A0.cell 0
  have c1 := A0.cell 1
  have c2 := A0.cell 2
  have c3 := A0.cell 3
  simp at c0 c1 c2 c3
  clear A0
  go_enter Tryd.func3, Tryd.ntmps3
  go_wp2_with fail
  refine (show Calls _ _ _ _ _ from CS.out).mono ?_
  rintro e w1 ⟨rfl, rfl⟩
  go_wp2_with fail
  refine (CN.out _).mono ?_
  rintro e w1 ⟨b1, g1, rfl, hfil1, hf1, hb1, hg1⟩
  have HF1 := Lib.hid hf1
  have HFIL1 := Lib.hid hfil1
  have c0 := hf1.cell c0 (fun h => h)
  have c1 := hf1.cell c1 (fun h => h)
  clear hf1 hfil1 CN CS
  go_wp2_with fail
  refine (CRN.out _).mono ?_
  rintro e w2 ⟨b2, g2, rfl, hfil2, hf2, hb2, hg2⟩
  have HF2 := Lib.hid (HF1.out.trans hf2)
  have X1 := Lib.hid (HFIL1.out.keep hf2 (fun h => h) (fun h => h))
  have X2 := Lib.hid hfil2
  have hlt := HFIL1.out.lt
  have hsz := HF1.out.size
  have b12 : b1 ≠ g2 := by omega
  have g12 : g1 ≠ g2 := by omega
  have b21 : b2 ≠ g1 := by omega
  have hg2W : W0.heap.size ≤ g2 := by omega
  have c2 := (HF2.out).cell (HA0.out.cell 2) (fun h => h)
  clear hf2 hfil2 CRN HF1 HFIL1 hlt hsz c0 c1
  go_wp2_with fail
  have hM0 : 0 < 8 * N := by omega
  clear e1 e2 e3 e4 e5 hW0 c2
  go_loopw [75] (fun i wr => ∃ k : Nat, i = .int .i64 k ∧ k ≤ n ∧ Fr No W0 wr ∧ (∃ bs, Fil wr b1 g1 bs p ∧ RFil wr b2 g2 (bitsOf bs) p ∧ bs.length = N)) (fun i _ => n - (intOf i).toNat)
  case atStart => exact ⟨0, rfl, Nat.zero_le _, HF2.out, ⟨_, X1.out, by rw [bitsOf_zero]; exact X2.out, by simp⟩⟩
  case round =>
    obtain ⟨j, rfl, hj, hfr, ⟨bs, x1, x2, y1⟩⟩ := hrel
    have Y1 := Lib.hid y1
    have hbl : (bitsOf bs).length = 8 * N := by rw [bitsOf_length, y1]
    by_cases h1 : j < n
    · obtain ⟨tb, to, ka, kn, kc, rfl, q1, hl1, hl2, hl3, hrd⟩ := HK.out _ hfr j h1
      have C1 := Lib.hid (copyRef_c ka kn kc (kb l j) _ hl1 (by omega) (hrd.keep hfr))
      have HX1 := Lib.hid x1
      have HX2 := Lib.hid x2
      have HFr := Lib.hid hfr
      have HRD := Lib.hid hrd
      have HL1 := Lib.hid hl1
      have HBL := Lib.hid hbl
      clear x1 x2 y1 hfr hrd hl1 hbl
      go_wp2_with fail
      refine (show Calls _ _ _ _ _ from C1.out).mono ?_
      rintro e w3 ⟨v3, rfl, hrow3, hf3⟩
      have HF3 := Lib.hid (HFr.out.trans hf3)
      have X13 := Lib.hid (HX1.out.keep hf3 (fun h => h) (fun h => h))
      have X23 := Lib.hid (HX2.out.keep hf3 (fun h => h) (fun h => h))
      have hlt3 := HX1.out.lt
      have hltr := HX2.out.on.lt
      have HW3 := Lib.hid (show Row w3 (fun b => wr.heap.size ≤ b) v3 (kb l j) from hrow3.sub (fun b _ h => h.elim (fun h => h.elim) (fun h => h.1)))
      obtain ⟨s3, k3, rfl, hk31, hk32, hin3⟩ := hrow3.form
      rw [HL1.out]
      have C2 := Lib.hid (add_c b1 g1 bs p s3 kn k3 (kb l j) _ X13.out HL1.out (by omega) hin3.rd (HT.out.keep HF3.out) (by rw [Y1.out]; omega) (by rw [Y1.out]; omega) (by omega))
      clear hrow3 hf3 C1 HX1 HX2 hin3 hk31 hk32
      go_wp2_with fail
      refine (show Calls _ _ _ _ _ from C2.out).mono ?_
      rintro e w4 ⟨rfl, hfil4, hf4⟩
      have HF4 := Lib.hid (HF3.out.own hf4 hg1)
      have X14 := Lib.hid hfil4
      have X24 := Lib.hid (X23.out.keep hf4 (fun e => b21 e) (fun e => g12 e.symm))
      have HW4 := Lib.hid (HW3.out.keep hf4 (fun b hb e => by have : b = g1 := e; omega))
      have C3 := refAdd_c b2 g2 (bitsOf bs) p ka kn kc (kb l j) _ X24.out HL1.out (by omega) (HRD.out.keep HF4.out) (by rw [HBL.out]; omega) (by rw [HBL.out]; omega) (by omega)
      rw [HBL.out, ← Y1.out, bitsOf_putAll _ _ (places_lt _ _ _ (by rw [Y1.out]; omega))] at C3
      have C3 := Lib.hid C3
      clear hfil4 hf4 C2 X13 X23 HF3 HW3
      go_wp2_with fail
      refine (show Calls _ _ _ _ _ from C3.out).mono ?_
      rintro e w5 ⟨rfl, hfil5, hf5⟩
      have HF5 := Lib.hid (HF4.out.own hf5 hg2W)
      have FINI := Lib.hid (show ∃ bs, Fil w5 b1 g1 bs p ∧ RFil w5 b2 g2 (bitsOf bs) p ∧ bs.length = N from ⟨_, X14.out.keep hf5 (fun e => b12 e) (fun e => g12 e), hfil5, by rw [putAll_length]; exact Y1.out⟩)
      have HW5 := HW4.out.keep hf5 (fun b hb e => by have : b = g2 := e; omega)
      obtain ⟨s5, k5, hv5, _, _, hin5⟩ := HW5.form
      simp only [Value.slice.injEq] at hv5
      obtain ⟨rfl, -, rfl⟩ := hv5
      have C4 := Lib.hid (same_yes (w := w5) (a := s3) (a' := ka) (len := kn) (cap := k3) (len' := kn) (cap' := kc) HL1.out HL1.out hin5.rd (HRD.out.keep HF5.out) rfl)
      clear hfil5 hf5 C3 X14 X24 HF4 HW4 HW5 hin5
      go_wp2_with fail
      refine (show Calls _ _ _ _ _ from C4.out).mono ?_
      rintro e w6 ⟨rfl, rfl⟩
      go_wp2_with fail
      go_roundw
      case rel => exact ⟨j + 1, by simp, by omega, HF5.out, FINI.out⟩
      case measure => simp [intOf]; omega
    · have X1 := Lib.hid x1
      have X2 := Lib.hid x2
      have HFr := Lib.hid hfr
      have HBL := Lib.hid hbl
      have d0 := x2.ob.cell 0
      have d1 := x2.ob.cell 1
      rw [hbl] at d0
      simp at d0 d1
      have hjn : j = n := by omega
      have HBIT := Lib.hid (fun i (h : i < 8 * N) => show wr.cell? ⟨g2, i, none⟩ = some (.bool ((bitsOf bs).getD i false)) from by
        have h2 := x2.on.cell i
        rwa [boolsV_at _ _ (by rw [hbl]; exact h)] at h2)
      have HCT := Lib.hid (count_take (bitsOf bs))
      have HCA := Lib.hid (show ((bitsOf bs).take (8 * N)).count true = setN bs by rw [← hbl, List.take_length, setN_count])
      clear x1 x2 y1 hfr hbl
      obtain ⟨M, hM⟩ : ∃ M, 8 * N = M := ⟨_, rfl⟩
      rw [hM] at d0 HBIT HBL HCA hM0
      have HM := Lib.hid hM
      have hMb : M ≤ 3000000 := by omega
      clear hM
      go_wp2_with fail
      go_loopw [9, 97] (fun s i wr' => ∃ k : Nat, i = .int .i64 k ∧ k ≤ M ∧ s = .int .i64 ((((bitsOf bs).take k).count true : Nat) : Int) ∧ wr = wr') (fun _ i _ => M - (intOf i).toNat)
      case atStart => exact ⟨0, rfl, Nat.zero_le _, rfl, rfl⟩
      case round =>
        obtain ⟨t, rfl, ht, rfl, rfl⟩ := hrel
        have hcl : ((bitsOf bs).take t).count true ≤ t := Nat.le_trans List.count_le_length (List.length_take_le _ _)
        by_cases h2 : t < M
        · have qb := HBIT.out t h2
          have hct := HCT.out t (by rw [HBL.out]; exact h2)
          generalize ((bitsOf bs).take t).count true = ct at *
          cases hb : (bitsOf bs).getD t false with
          | true =>
            rw [hb] at qb hct
            have HCT2 := Lib.hid hct
            clear hct hb
            go_wp2_with fail
            go_roundw
            case rel => exact ⟨t + 1, by simp, by omega, by rw [HCT2.out]; simp, by simp⟩
            case measure => simp [intOf]; omega
          | false =>
            rw [hb] at qb hct
            have HCT2 := Lib.hid hct
            clear hct hb
            go_wp2_with fail
            go_roundw
            case rel => exact ⟨t + 1, by simp, by omega, by rw [HCT2.out]; simp, by simp⟩
            case measure => simp [intOf]; omega
        · have htM : M = t := by omega
          subst htM
          rw [HCA.out]
          clear hcl HCT HCA HBIT
          go_wp2_with fail
          have d3 := HFr.out.cell (HA0.out.cell 3) (fun h => h)
          simp at d3
          have f1 := (Fr.refl No wr).drew
          have X1d := X1.out.keep f1 (fun h => h) (fun h => h)
          have X2d := X2.out.keep f1 (fun h => h) (fun h => h)
          have hbs : bs.length = N := by
            have h3 := HBL.out
            rw [bitsOf_length] at h3
            have h4 := HM.out
            omega
          have CB := bits_c b1 g1 bs p wr.drew X1d (by omega)
          have CP := Lib.hid (probes_c b1 g1 bs p wr.drew X1d)
          have CSE := set_c b1 g1 bs p wr.drew X1d (by omega)
          have CH := has_c b1 g1 bs p qa qn qc q wr.drew X1d HQL.out (by omega) ((HQ.out.keep HFr.out).keep f1) ((HT.out.keep HFr.out).keep f1) (by omega) (by omega) (by omega)
          have CRH := fun w (f : Fr No wr.drew w) => refHas_c b2 g2 (bitsOf bs) p qa qn qc q w (X2d.keep f (fun h => h) (fun h => h)) HQL.out (by omega) (((HQ.out.keep HFr.out).keep f1).keep f) (by rw [HBL.out]; omega) (by rw [HBL.out]; omega) (by omega)
          have h8 : 8 * bs.length = M := by rw [hbs]; exact HM.out
          rw [h8] at CB CH
          rw [HBL.out, bitsOf_has] at CRH
          obtain ⟨hv, hhv⟩ : ∃ hv, hasB bs (places q M p) = hv := ⟨_, rfl⟩
          rw [hhv] at CH CRH
          obtain ⟨sb, hsb⟩ : ∃ sb, setN bs = sb := ⟨_, rfl⟩
          rw [hsb] at CSE ⊢
          have CB := Lib.hid CB
          have CSE := Lib.hid CSE
          have CH := Lib.hid CH
          have CRH := Lib.hid CRH
          have n1 : ((M : Int) != (M : Int)) = false := by simp
          have n2 : ((p : Int) != (p : Int)) = false := by simp
          have n3 : ((sb : Int) != (sb : Int)) = false := by simp
          have n4 : (hv != hv) = false := by simp
          have X1d := Lib.hid X1d
          have X2d := Lib.hid X2d
          have HBS := Lib.hid hbs
          clear hhv hsb f1 h8 hbs
          by_cases hbig : 5000 < M
          · have dbig : decide (5000 < (M : Int)) = true := decide_eq_true (by omega)
            go_region_held3 (fun w' => w'.cell? ⟨b2, 0, none⟩ = some (.slice (some ⟨g2, 0, none⟩) M M) ∧ w'.cell? ⟨b2, 1, none⟩ = some (.int .i64 (p : Int)) ∧ w'.cell? ⟨W.heap.size, 3, none⟩ = some (.slice qa qn qc)) (first | assumption | go_keep)
              (first
                | (go_at_call 17; refine (show Calls _ _ _ _ _ from CB.out).mono ?_; rintro e w2 ⟨rfl, rfl⟩)
                | (go_at_call 18; refine (show Calls _ _ _ _ _ from CP.out).mono ?_; rintro e w2 ⟨rfl, rfl⟩)
                | (go_at_call 19; refine (show Calls _ _ _ _ _ from CSE.out).mono ?_; rintro e w2 ⟨rfl, rfl⟩)
                | (go_at_call 20; refine (show Calls _ _ _ _ _ from CH.out).mono ?_; rintro e w7 ⟨rfl, hf7⟩
                   have d0 := hf7.cell (((Fr.refl No wr).drew).cell d0 (fun h => h)) (fun h => h)
                   have d1 := hf7.cell (((Fr.refl No wr).drew).cell d1 (fun h => h)) (fun h => h)
                   have d3 := hf7.cell (((Fr.refl No wr).drew).cell d3 (fun h => h)) (fun h => h)
                   have HF7 := Lib.hid hf7
                   clear hf7)
                | (go_at_call 21; refine (show Calls _ _ _ _ _ from CRH.out _ HF7.out).mono ?_; rintro e w8 ⟨rfl, hf8⟩
                   have d0 := hf8.cell d0 (fun h => h)
                   have d1 := hf8.cell d1 (fun h => h)
                   have d3 := hf8.cell d3 (fun h => h)
                   have HF8 := Lib.hid (HF7.out.trans hf8)
                   clear hf8))
            have CA2 := Lib.hid (CA.out _ ((HFr.out.drew).trans HF8.out))
            have HFF := Lib.hid (HF0.out.trans ((HFr.out.drew).trans HF8.out))
            go_wp2_with fail
            refine (show Calls _ _ _ _ _ from CA2.out).mono ?_
            rintro e w9 ⟨rfl, hf9⟩
            go_wp2_with fail
            go_ret
            exact ⟨rfl, HFF.out.trans hf9⟩
          · have dbig : decide (5000 < (M : Int)) = false := decide_eq_false (by omega)
            go_region_held3 (fun w' => w'.cell? ⟨b2, 0, none⟩ = some (.slice (some ⟨g2, 0, none⟩) M M) ∧ w'.cell? ⟨b2, 1, none⟩ = some (.int .i64 (p : Int)) ∧ w'.cell? ⟨W.heap.size, 3, none⟩ = some (.slice qa qn qc)) (first | assumption | go_keep)
              (first
                | (go_at_call 17; refine (show Calls _ _ _ _ _ from CB.out).mono ?_; rintro e w2 ⟨rfl, rfl⟩)
                | (go_at_call 18; refine (show Calls _ _ _ _ _ from CP.out).mono ?_; rintro e w2 ⟨rfl, rfl⟩)
                | (go_at_call 19; refine (show Calls _ _ _ _ _ from CSE.out).mono ?_; rintro e w2 ⟨rfl, rfl⟩)
                | (go_at_call 20; refine (show Calls _ _ _ _ _ from CH.out).mono ?_; rintro e w7 ⟨rfl, hf7⟩
                   have d0 := hf7.cell (((Fr.refl No wr).drew).cell d0 (fun h => h)) (fun h => h)
                   have d1 := hf7.cell (((Fr.refl No wr).drew).cell d1 (fun h => h)) (fun h => h)
                   have d3 := hf7.cell (((Fr.refl No wr).drew).cell d3 (fun h => h)) (fun h => h)
                   have HF7 := Lib.hid hf7
                   clear hf7)
                | (go_at_call 21; refine (show Calls _ _ _ _ _ from CRH.out _ HF7.out).mono ?_; rintro e w8 ⟨rfl, hf8⟩
                   have d0 := hf8.cell d0 (fun h => h)
                   have d1 := hf8.cell d1 (fun h => h)
                   have d3 := hf8.cell d3 (fun h => h)
                   have HF8 := Lib.hid (HF7.out.trans hf8)
                   clear hf8))
            have HG8 := Lib.hid ((HFr.out.drew).trans HF8.out)
            have X18 := Lib.hid (X1d.out.keep HF8.out (fun h => h) (fun h => h))
            have X28 := Lib.hid (X2d.out.keep HF8.out (fun h => h) (fun h => h))
            have hN625 : N ≤ 1000 := by have := HM.out; omega
            have CY := Lib.hid (fbytes_c b1 g1 bs p _ X18.out (by omega) (by rw [HBS.out]; omega))
            have hR : (bitsOf bs).length = 8 * bs.length := bitsOf_length bs
            have CRY := fun w (f : Fr No w8 w) => refFBytes_c b2 g2 (bitsOf bs) p bs.length w (X28.out.keep f (fun h => h) (fun h => h)) (by omega) hR (by rw [HBS.out]; omega)
            rw [filB_bits] at CRY
            have CRY := Lib.hid CRY
            obtain ⟨B, hB⟩ : ∃ B, UInt8.ofNat p :: bs = B := ⟨_, rfl⟩
            have hBl : B.length = N + 1 := by rw [← hB, List.length_cons, HBS.out]
            rw [hB] at CY CRY
            obtain ⟨L, hL⟩ : ∃ L, B.length = L := ⟨_, rfl⟩
            have hL1 : 1 ≤ L := by omega
            have hL2 : L ≤ 1001 := by omega
            have HBL1 := Lib.hid hL
            clear hB hBl hL hR CB CP CSE CH CRH X1d X2d HF7 HF8 n1 n2 n3 n4 d0 d1 d3
            go_wp2_with fail
            refine (show Calls _ _ _ _ _ from CY.out).mono ?_
            rintro e w9 ⟨v9, rfl, hrow9, hf9⟩
            have HF9 := Lib.hid hf9
            have HG9 := Lib.hid (HG8.out.trans hf9)
            obtain ⟨g9, k9, hv9, hg9, hk91, hk92, _, _, _⟩ := hrow9.at_ (i := 0) (by have := HBL1.out; omega)
            rw [HBL1.out] at hv9 hk91
            subst hv9
            have HR9 := Lib.hid (show Row w9 (fun k => w8.heap.size ≤ k) (.slice (some ⟨g9, 0, none⟩) L k9) B from hrow9.sub (fun b _ h => h.elim (fun h => h.elim) (fun h => h.1)))
            clear hrow9 hf9 CY
            go_wp2_with fail
            refine (CRY.out _ HF9.out).mono ?_
            rintro e w10 ⟨v10, rfl, hrow10, hf10⟩
            have HG10 := Lib.hid (HG9.out.trans hf10)
            have HF10 := Lib.hid (HF9.out.trans hf10)
            obtain ⟨s10, k10, rfl, _, _, hin10⟩ := hrow10.form
            rw [HBL1.out]
            have HR10 := Lib.hid (HR9.out.keep hf10 (fun _ _ h => h))
            obtain ⟨s9', k9', hv9', _, _, hin9'⟩ := HR10.out.form
            simp only [Value.slice.injEq] at hv9'
            obtain ⟨rfl, -, rfl⟩ := hv9'
            have C5 := Lib.hid (same_yes (w := w10) (a := some ⟨g9, 0, none⟩) (a' := s10) (len := L) (cap := k9) (len' := L) (cap' := k10) HBL1.out HBL1.out hin9'.rd hin10.rd rfl)
            clear hrow10 hin10 hin9' hf10 HR9 HG9 HF9
            go_wp2_with fail
            refine (show Calls _ _ _ _ _ from C5.out).mono ?_
            rintro e w11 ⟨rfl, rfl⟩
            have hlt1 := X18.out.lt
            have hlt2 : g2 < w8.heap.size := X28.out.on.lt
            have hlt3 : b2 < w8.heap.size := X28.out.ob.lt
            clear C5
            unfold maxLen at hk92
            go_wp2_with fail
            go_loopw [154] (fun i wr' => ∃ k : Nat, i = .int .i64 k ∧ k ≤ L ∧ (∃ l', l'.length = L ∧ Row wr' (fun k => w8.heap.size ≤ k) (.slice (some ⟨g9, 0, none⟩) L k9) l') ∧ Fr (fun k => w8.heap.size ≤ k) w8 wr') (fun i _ => L - (intOf i).toNat)
            case atStart => exact ⟨0, rfl, Nat.zero_le _, ⟨B, HBL1.out, HR10.out⟩, HF10.out.sub (fun _ _ h => h.elim)⟩
            case round =>
              obtain ⟨y, rfl, hy, ⟨l', hl', hrow⟩, hfr⟩ := hrel
              by_cases h3 : y < L
              · obtain ⟨gy, cy, hvy, _, _, _, cc, cf, hset⟩ := hrow.at_ (i := y) (by omega)
                simp only [Value.slice.injEq, Option.some.injEq, Addr.mk.injEq, and_true] at hvy
                obtain ⟨rfl, -, rfl⟩ := hvy
                obtain ⟨d, hd⟩ := not_u8 _ (u8_lt (l'.getD y 0))
                generalize (l'.getD y 0).toNat = vv at *
                have HD := Lib.hid hd
                have HSET := Lib.hid (hset d)
                have HFY := Lib.hid hfr
                have HLY := Lib.hid hl'
                clear hd hset hfr hl' hrow
                go_wp2_with fail
                rw [HD.out]
                go_roundw
                case rel => exact ⟨y + 1, by simp, by omega, ⟨l'.set y d, by rw [List.length_set]; exact HLY.out, HSET.out.1⟩, HFY.out.trans HSET.out.2⟩
                case measure => simp [intOf]; omega
              · have hyL : y = L := by omega
                have Y1 := Lib.hid (X18.out.keep hfr (by omega) (by omega))
                have Y2 := Lib.hid (X28.out.keep hfr (by omega) (by omega))
                have HGY := Lib.hid (HG8.out.then_ hfr (fun x hx h => by have := HG8.out.size; omega))
                have CY := Lib.hid (fbytes_c b1 g1 bs p _ Y1.out (by omega) (by rw [HBS.out]; omega))
                have hR : (bitsOf bs).length = 8 * bs.length := bitsOf_length bs
                have CRY := fun w (f : Fr No wr w) => refFBytes_c b2 g2 (bitsOf bs) p bs.length w (Y2.out.keep f (fun h => h) (fun h => h)) (by omega) hR (by rw [HBS.out]; omega)
                rw [filB_bits] at CRY
                have CRY := Lib.hid CRY
                obtain ⟨B', hB'⟩ : ∃ B', UInt8.ofNat p :: bs = B' := ⟨_, rfl⟩
                rw [hB'] at CY CRY
                obtain ⟨L', hL'⟩ : ∃ L', B'.length = L' := ⟨_, rfl⟩
                have HBL2 := Lib.hid hL'
                clear hB' hL' hR hrow hfr hl'
                go_wp2_with fail
                refine (show Calls _ _ _ _ _ from CY.out).mono ?_
                rintro e w12 ⟨v12, rfl, hrow12, hf12⟩
                have HG12 := Lib.hid (HGY.out.trans hf12)
                have HF12 := Lib.hid hf12
                obtain ⟨s12, k12, rfl, _, _, hin12⟩ := hrow12.form
                rw [HBL2.out]
                have R12 := Lib.hid hin12.rd
                clear hrow12 hf12 hin12 CY
                go_wp2_with fail
                refine (CRY.out _ HF12.out).mono ?_
                rintro e w13 ⟨v13, rfl, hrow13, hf13⟩
                have HG13 := Lib.hid (HG12.out.trans hf13)
                obtain ⟨s13, k13, rfl, _, _, hin13⟩ := hrow13.form
                rw [HBL2.out]
                have C6 := Lib.hid (same_yes (w := w13) (a := s12) (a' := s13) (len := L') (cap := k12) (len' := L') (cap' := k13) HBL2.out HBL2.out (R12.out.keep hf13) hin13.rd rfl)
                clear hrow13 hin13 hf13 CRY
                go_wp2_with fail
                refine (show Calls _ _ _ _ _ from C6.out).mono ?_
                rintro e w14 ⟨rfl, rfl⟩
                have CA2 := Lib.hid (CA.out _ HG13.out)
                clear C6
                go_wp2_with fail
                refine (show Calls _ _ _ _ _ from CA2.out).mono ?_
                rintro e w15 ⟨rfl, hf15⟩
                go_wp2_with fail
                go_ret
                exact ⟨rfl, (HF0.out.trans HG13.out).trans hf15⟩
end Go.Proofs.YtbglicndccdaiaaDoor
