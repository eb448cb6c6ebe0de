/-
  Layer 12: contract of the document's Build.
-/
import Derived.Test.YtiacdakaolghmaaBkW
import Derived.Test.YtiacdakaolghmaaWireCn
namespace Go.Proofs.Ytiacdakaolghmaa
set_option linter.unusedVariables false
open Go.RowKit

def asI (q : List Nat) : List Int := q.map fun (x : Nat) => (x : Int)
theorem asI_len (q : List Nat) : (asI q).length = q.length := by simp [asI]
theorem asI_get (q : List Nat) (i : Nat) : (asI q).getD i 0 = ((q.getD i 0 : Nat) : Int) := by
  unfold asI
  simp only [List.getD_eq_getElem?_getD, List.getElem?_map]
  cases q[i]? <;> rfl
theorem asI_snoc (q : List Nat) (n : Nat) : asI (q ++ [n]) = asI q ++ [(n : Int)] := by simp [asI]
theorem take_cut (p : List UInt8) (h m : Nat) (hm : h + m < p.length) : (p.drop h).take (m + 1) = (p.drop h).take m ++ [p.getD (h + m) 0] := by
  rw [List.take_add_one, List.getElem?_drop, List.getElem?_eq_getElem hm]
  simp [List.getD, hm]
theorem take_snoc (p : List UInt8) (m : Nat) (hm : m < p.length) : p.take (m + 1) = p.take m ++ [p.getD m 0] := by
  have := take_cut p 0 m (by omega)
  simpa using this
theorem words_snoc (q : List Nat) (m : Nat) (hm : m < q.length) : wordsB (q.take (m + 1)) = wordsB (q.take m) ++ word4 (q.getD m 0) := by
  rw [List.take_add_one, List.getElem?_eq_getElem hm, wordsB_append]
  simp [wordsB, List.getD, hm]
theorem getD_memN (q : List Nat) (m : Nat) (hm : m < q.length) : q.getD m 0 ∈ q := by
  simp [List.getD, hm]
set_option maxRecDepth 20000 in
set_option maxHeartbeats 12800000 in
theorem refBuild_c (S : Nat → Prop) (a : Option Addr) (n cap : Nat) (l : List Pr) (e : Nat) (w : World) (hn : l.length = n) (hm : n ≤ 3000) (hl : Low 3000 l) (he : 1 ≤ e) (he' : e ≤ 64) (hi : Prs w S a l) :
    Calls Try.prog 15 #[.slice a n cap, .int .i64 (e : Int)] w (NewRow (blockB e l) w) := by
  have HLEN : Hid (∀ k, k ≤ n → (pairsB e l k).length ≤ 20000000) := Lib.hid fun k hk => by
    have h1 := pairsB_len e l 3000 (by omega) hl k (by omega)
    have h2 : k * (27 + 2 * 3000) ≤ 3000 * (27 + 2 * 3000) := Nat.mul_le_mul_right _ (by omega)
    omega
  have HLO := Lib.hid hl
  have HN := Lib.hid hn
  have HI := Lib.hid hi
  have e0 : ¬ (e : Int) = 0 := by omega
  have e1 : (0 : Int) < (e : Int) := by omega
  clear hn hi hl
  go_enter Try.func15, Try.ntmps15
  go_wp2_with fail
  go_loopw [5, 6, 7] (fun vo vs i wr => ∃ k : Nat, i = .int .i64 k ∧ k ≤ n ∧ BW w wr vo vs (pairsB e l k) (asI (startsN e l k))) (fun _ _ i _ => n - (intOf i).toNat)
  case atStart => exact ⟨0, rfl, Nat.zero_le _, by simpa [pairsB, startsN, asI] using BW.start w⟩
  case round =>
    obtain ⟨k, rfl, hk, hbw⟩ := hrel
    have hpl := HLEN.out k hk
    have hsl := startsN_len e l k
    by_cases hlt : k < n
    · have hkl : k < l.length := by rw [HN.out]; exact hlt
      obtain ⟨b, o, _, rfl, hxs⟩ := HI.out (by omega)
      have hxw := hxs k hkl
      have hx := (hxs k hkl).keep hbw.fr (fun h => h)
      have hy := (hxs (k - 1) (by omega)).keep hbw.fr (fun h => h)
      have hz := HLO.out k hkl
      have hz2 := HLO.out (k - 1) (by omega)
      have hle := headN_le e l k
      have HPB : Hid (pairsB e l (k + 1) = pairsB e l k ++ (enc (headN e l k) ++ (enc ((l.getD k pr0).key.size - headN e l k) ++ (enc (l.getD k pr0).val.size ++ ((bs (l.getD k pr0).key).drop (headN e l k) ++ bs (l.getD k pr0).val))))) := Lib.hid rfl
      have HST : Hid (startsN e l (k + 1) = if k % e = 0 then startsN e l k ++ [(pairsB e l k).length] else startsN e l k) := Lib.hid rfl
      have HHD : Hid (headN e l k = if k % e = 0 then 0 else shL (bs (l.getD k pr0).key) (bs (l.getD (k - 1) pr0).key)) := Lib.hid rfl
      obtain ⟨x, hx0⟩ : ∃ x, l.getD k pr0 = x := ⟨_, rfl⟩
      obtain ⟨y, hy0⟩ : ∃ y, l.getD (k - 1) pr0 = y := ⟨_, rfl⟩
      obtain ⟨hd, hd0⟩ : ∃ hd, headN e l k = hd := ⟨_, rfl⟩
      rewrite [hx0] at hx hxw hz hle HPB HHD
      have HXW := Lib.hid hxw
      clear hxw
      rewrite [hy0] at hy hz2 HHD
      rewrite [hd0] at hle HPB HHD
      obtain ⟨Q1, hQ1⟩ : ∃ Q1, startsN e l (k + 1) = Q1 := ⟨_, rfl⟩
      rewrite [hQ1] at HST
      have HQ1 := Lib.hid hQ1
      clear hQ1
      generalize startsN e l k = Q at hbw HST hsl
      obtain ⟨P1, hP1⟩ : ∃ P1, pairsB e l (k + 1) = P1 := ⟨_, rfl⟩
      rewrite [hP1] at HPB
      have HP1 := Lib.hid hP1
      clear hP1
      generalize pairsB e l k = P at hbw HPB HST hpl
      clear hx0 hy0 hd0 hxs
      obtain ⟨oa, oc, rfl, _, _, _⟩ := hbw.out.form
      obtain ⟨sa, sc, rfl, _, _, _⟩ := hbw.starts.form
      have HBW := Lib.hid hbw
      obtain ⟨pl, hpl0⟩ : ∃ pl, P.length = pl := ⟨_, rfl⟩
      rewrite [hpl0] at HBW HST hpl
      rewrite [asI_len] at HBW
      have HPL := Lib.hid hpl0
      clear hbw hpl0
      obtain ⟨c0, c1⟩ := hx
      obtain ⟨g0, g1⟩ := hy
      rw [HPL.out, asI_len]
      by_cases hc : k % e = 0
      · have r1 : Int.tmod (k : Int) (e : Int) = 0 := by rw [← Int.ofNat_tmod, hc]; rfl
        have r2 : (k : Int) % (e : Int) = 0 := by rw [← Int.natCast_emod, hc]; rfl
        have hst := HST.out
        rewrite [if_pos hc] at hst
        have hhd := HHD.out
        rewrite [if_pos hc] at hhd
        obtain ⟨v1, w1, hr1, hb1⟩ := HBW.out.push (pl : Int) (by rw [asI_len]; omega)
        rewrite [← asI_snoc, ← hst] at hb1
        have HZ : Hid ((hd : Int) = 0) := Lib.hid (by omega)
        obtain ⟨kt, hkt⟩ : ∃ kt, x.key.size - hd = kt := ⟨_, rfl⟩
        have HKT := Lib.hid hkt
        have hktl : kt ≤ 3000 := by omega
        have HZ2 : Hid ((kt : Int) = (x.key.size : Int)) := Lib.hid (by omega)
        have HRUN1 := Lib.hid hr1
        have HB1 := Lib.hid hb1
        obtain ⟨sa1, sn1, rfl⟩ : ∃ a c, v1 = .slice a Q1.length c := by
          obtain ⟨a, c, h, _⟩ := hb1.starts.form
          rw [asI_len] at h
          exact ⟨a, c, h⟩
        clear hr1 hb1 hst hhd HBW HST HHD c0 c1 g0 g1 hkt
        go_wp2_with (at_builtin; refine wpList_append_run rfl _ _ 58 rfl rfl rfl HRUN1.out ?_)
        have C1 := fun w1 => refNumber_c hd w1 (by omega)
        try rw [HZ.out] at C1
        refine (show Calls _ _ _ _ _ from C1 _).mono ?_
        rintro ex2 w2 ⟨v2, rfl, hr2, hf2⟩
        obtain ⟨a2, c2, rfl, _, _, hin2⟩ := hr2.form
        have HE2 := Lib.hid (enc_len9 (show hd < 9223372036854775808 by omega))
        have HE4 := Lib.hid (enc_len9 (show kt < 9223372036854775808 by omega))
        have HE6 := Lib.hid (enc_len9 (show x.val.size < 9223372036854775808 by omega))
        obtain ⟨v3, w3, hr3, hb3⟩ := (HB1.out.keep hf2).more a2 (enc hd).length c2 (enc hd) rfl hin2.rd (by rw [HPL.out]; have := HE2.out; omega)
        obtain ⟨oa3, on3, oc3, rfl⟩ := hb3.out.shape
        obtain ⟨d0, d1⟩ := HXW.out.keep hb3.fr (fun h => h)
        have HRUN3 := Lib.hid hr3
        have HB3 := Lib.hid hb3
        clear hr3 hb3 hr2 hf2 hin2 C1
        generalize (enc hd).length = m2 at HRUN3 ⊢
        go_wp2_with (at_builtin; refine wpList_append_run rfl _ _ 25 rfl rfl rfl HRUN3.out ?_)
        have C4 := fun w1 => refNumber_c kt w1 (by omega)
        try rw [HZ2.out] at C4
        refine (show Calls _ _ _ _ _ from C4 _).mono ?_
        rintro ex4 w4 ⟨v4, rfl, hr4, hf4⟩
        obtain ⟨a4, c4, rfl, _, _, hin4⟩ := hr4.form
        obtain ⟨v5, w5, hr5, hb5⟩ := (HB3.out.keep hf4).more a4 (enc kt).length c4 (enc kt) rfl hin4.rd (by rw [List.length_append, HPL.out]; have := HE2.out; have := HE4.out; omega)
        obtain ⟨oa5, on5, oc5, rfl⟩ := hb5.out.shape
        have hd5 := HXW.out.keep hb5.fr (fun h => h)
        clear d0 d1
        obtain ⟨d0, d1⟩ := hd5
        have HRUN5 := Lib.hid hr5
        have HB5 := Lib.hid hb5
        clear hr5 hb5 hr4 hf4 hin4 C4
        generalize (enc kt).length = m4 at HRUN5 ⊢
        go_wp2_with (at_builtin; refine wpList_append_run rfl _ _ 25 rfl rfl rfl HRUN5.out ?_)
        refine (show Calls _ _ _ _ _ from refNumber_c x.val.size _ (by omega)).mono ?_
        rintro ex6 w6 ⟨v6, rfl, hr6, hf6⟩
        obtain ⟨a6, c6, rfl, _, _, hin6⟩ := hr6.form
        obtain ⟨v7, w7, hr7, hb7⟩ := (HB5.out.keep hf6).more a6 (enc x.val.size).length c6 (enc x.val.size) rfl hin6.rd (by rw [List.length_append, List.length_append, HPL.out]; have := HE2.out; have := HE4.out; have := HE6.out; omega)
        obtain ⟨oa7, on7, oc7, rfl⟩ := hb7.out.shape
        have hd7 := HXW.out.keep hb7.fr (fun h => h)
        clear d0 d1
        obtain ⟨d0, d1⟩ := hd7
        have HRUN7 := Lib.hid hr7
        obtain ⟨P7, hP7⟩ : ∃ P7, ((P ++ enc hd) ++ enc kt) ++ enc x.val.size = P7 := ⟨_, rfl⟩
        rewrite [hP7] at hb7
        have HL7 : Hid (P7.length ≤ 20000027) := Lib.hid (by rw [← hP7]; simp only [List.length_append]; rw [HPL.out]; have := HE2.out; have := HE4.out; have := HE6.out; omega)
        have HPE : Hid (P1 = P7 ++ ((bs x.key).drop hd ++ bs x.val)) := Lib.hid (by rw [HPB.out, HKT.out, ← hP7]; simp only [List.append_assoc])
        have HB7 := Lib.hid hb7
        clear hr7 hb7 hr6 hf6 hin6 hP7 HPB HB5 HB3 HB1
        generalize (enc x.val.size).length = m6 at HRUN7 ⊢
        go_wp2_with (at_builtin; refine wpList_append_run rfl _ _ 25 rfl rfl rfl HRUN7.out ?_)
        clear d0 d1
        go_loopw [5, 9] (fun vo j wr => ∃ m : Nat, j = .int .i64 ((hd + m : Nat) : Int) ∧ hd + m ≤ x.key.size ∧ BW w wr vo (.slice sa1 Q1.length sn1) (P7 ++ ((bs x.key).drop hd).take m) (asI Q1)) (fun _ j _ => x.key.size - (intOf j).toNat)
        case atStart => exact ⟨0, by first | rfl | (have := HZ.out; congr 1; omega), by omega, by simpa using HB7.out⟩
        case round =>
          obtain ⟨m, rfl, hm2, hbw2⟩ := hrel
          have HB8 := Lib.hid hbw2
          obtain ⟨oa8, on8, oc8, rfl⟩ := hbw2.out.shape
          obtain ⟨d0, d1⟩ := HXW.out.keep hbw2.fr (fun h => h)
          have hlen8 : (P7 ++ ((bs x.key).drop hd).take m).length ≤ 20003027 := by
            rw [List.length_append, List.length_take, List.length_drop, bs_length]
            have := HL7.out
            omega
          obtain ⟨jj, hjj⟩ : ∃ jj, hd + m = jj := ⟨_, rfl⟩
          clear hbw2
          rw [hjj] at hm2 ⊢
          by_cases h2 : jj < x.key.size
          · have hg := ba_getD x.key jj h2
            have HTC := Lib.hid (take_cut (bs x.key) hd m (by rw [bs_length]; omega))
            rw [hjj] at HTC
            obtain ⟨v9, w9, hr9, hb9⟩ := HB8.out.more1 x.key[jj] _ rfl (by omega)
            have HRUN9 := Lib.hid hr9
            have HB9 : Hid (BW w w9 v9 (.slice sa1 Q1.length sn1) (P7 ++ ((bs x.key).drop hd).take (m + 1)) (asI Q1)) := Lib.hid (by
              rw [HTC.out]
              have e9 : (bs x.key).getD jj 0 = x.key[jj] := hg
              rw [e9, ← List.append_assoc]
              exact hb9)
            have HJ := Lib.hid hjj
            clear hr9 hb9 hg hjj hlen8
            go_wp2_with (at_builtin; refine wpList_append_run rfl _ _ 25 rfl rfl rfl HRUN9.out ?_)
            go_roundw
            case rel => exact ⟨m + 1, by have := HJ.out; congr 1; omega, by have := HJ.out; omega, HB9.out⟩
            case measure => simp [intOf]; omega
          · have hje : jj = x.key.size := by omega
            have HB10 : Hid (BW w wr (.slice oa8 on8 oc8) (.slice sa1 Q1.length sn1) (P7 ++ (bs x.key).drop hd) (asI Q1)) := Lib.hid (by
              have := HB8.out
              rw [List.take_of_length_le (by rw [List.length_drop, bs_length]; omega)] at this
              exact this)
            clear HB8 hlen8 d0 d1 hje hjj
            have hd9 := HXW.out.keep HB10.out.fr (fun h => h)
            obtain ⟨d0, d1⟩ := hd9
            go_wp2_with fail
            clear d0 d1
            go_loopw [5, 10] (fun vo j wr => ∃ m : Nat, j = .int .i64 (m : Int) ∧ m ≤ x.val.size ∧ BW w wr vo (.slice sa1 Q1.length sn1) ((P7 ++ (bs x.key).drop hd) ++ (bs x.val).take m) (asI Q1)) (fun _ j _ => x.val.size - (intOf j).toNat)
            case atStart => exact ⟨0, rfl, by omega, by simpa using HB10.out⟩
            case round =>
              clear HB10
              obtain ⟨m, rfl, hm2, hbw2⟩ := hrel
              have HB8 := Lib.hid hbw2
              obtain ⟨oa8, on8, oc8, rfl⟩ := hbw2.out.shape
              obtain ⟨d0, d1⟩ := HXW.out.keep hbw2.fr (fun h => h)
              have hlen8 : ((P7 ++ (bs x.key).drop hd) ++ (bs x.val).take m).length ≤ 20009027 := by
                rw [List.length_append, List.length_append, List.length_take, List.length_drop, bs_length, bs_length]
                have := HL7.out
                omega
              clear hbw2
              by_cases h2 : m < x.val.size
              · have hg := ba_getD x.val m h2
                have HTC := Lib.hid (take_snoc (bs x.val) m (by rw [bs_length]; omega))
                obtain ⟨v9, w9, hr9, hb9⟩ := HB8.out.more1 x.val[m] _ rfl (by omega)
                have HRUN9 := Lib.hid hr9
                have HB9 : Hid (BW w w9 v9 (.slice sa1 Q1.length sn1) ((P7 ++ (bs x.key).drop hd) ++ (bs x.val).take (m + 1)) (asI Q1)) := Lib.hid (by
                  rw [HTC.out]
                  have e9 : (bs x.val).getD m 0 = x.val[m] := hg
                  rw [e9, ← List.append_assoc]
                  exact hb9)
                clear hr9 hb9 hg hlen8
                go_wp2_with (at_builtin; refine wpList_append_run rfl _ _ 25 rfl rfl rfl HRUN9.out ?_)
                go_roundw
                case rel => exact ⟨m + 1, by simp, by omega, HB9.out⟩
                case measure => simp [intOf]; omega
              · have HB11 : Hid (BW w wr (.slice oa8 on8 oc8) (.slice sa1 Q1.length sn1) (pairsB e l (k + 1)) (asI (startsN e l (k + 1)))) := Lib.hid (by
                  have := HB8.out
                  rw [List.take_of_length_le (by rw [bs_length]; omega)] at this
                  rw [HP1.out, HQ1.out, HPE.out, ← List.append_assoc]
                  exact this)
                clear HB8 hlen8
                go_wp2_with fail
                go_roundw
                case rel => exact ⟨k + 1, by simp, by omega, HB11.out⟩
                case measure => simp [intOf]; omega
      · have hkp : 0 < k := by
          rcases Nat.eq_zero_or_pos k with h | h
          · rw [h, Nat.zero_mod] at hc; exact absurd rfl hc
          · exact h
        obtain ⟨m, hmk⟩ : ∃ m, k - 1 = m := ⟨_, rfl⟩
        rewrite [hmk] at g0 g1
        have hm1 : (k : Int) - 1 = (m : Int) := by omega
        have hm0 : (0 : Int) ≤ (m : Int) := by omega
        have hml : (m : Int) < (n : Int) := by omega
        have hwr : IntKind.i64.wrap ((k : Int) - 1) = (m : Int) := by rw [hm1]; exact IntWalk.i64_in _ (by omega)
        have hwm : IntKind.i64.wrap (m : Int) = (m : Int) := IntWalk.i64_in _ (by omega)
        have r0 : (((k % e : Nat) : Int) == 0) = false := by
          rw [beq_eq_false_iff_ne]
          generalize k % e = r at hc ⊢
          omega
        have r1 : Int.tmod (k : Int) (e : Int) = ((k % e : Nat) : Int) := (Int.ofNat_tmod k e).symm
        have hst := HST.out
        rewrite [if_neg hc] at hst
        have hhd := HHD.out
        rewrite [if_neg hc] at hhd
        have CSH := refShared_c x.key y.key
        rewrite [← hhd] at CSH
        have CSH := Lib.hid (fun w' => CSH (by unfold maxLen; omega) (by unfold maxLen; omega) w')
        rewrite [← hst] at HBW
        have HZ : Hid ((hd : Int) = (hd : Int)) := Lib.hid rfl
        obtain ⟨kt, hkt⟩ : ∃ kt, x.key.size - hd = kt := ⟨_, rfl⟩
        have HKT := Lib.hid hkt
        have hktl : kt ≤ 3000 := by omega
        have q1 : IntKind.i64.wrap ((x.key.size : Int) - (hd : Int)) = (kt : Int) := by rw [← hkt, Int.ofNat_sub hle]; exact IntWalk.i64_in _ (by omega)
        have HZ2 : Hid ((kt : Int) = (kt : Int)) := Lib.hid rfl
        have hfx : Fr No wr wr.drew := (Fr.refl No wr).drew
        rewrite [← hst]
        clear hst hhd HST HHD c1 g1 hkt hc
        go_wp2_with fail
        go_region_held3 (fun w' => w'.cell? ⟨b, o + k * 2, none⟩ = some (.string x.key) ∧ w'.cell? ⟨b, o + m * 2, none⟩ = some (.string y.key) ∧ Fr No wr w') (first | assumption | go_keep)
          (first
            | (go_at_call 25; refine (CSH.out _).mono ?_; intro ex w6 hret; obtain ⟨rfl, hf6⟩ := hret
               have c0 := hf6.cell (p := ⟨b, o + k * 2, none⟩) c0 (fun h => h)
               have g0 := hf6.cell (p := ⟨b, o + m * 2, none⟩) g0 (fun h => h)
               have hfx := hfx.trans hf6
               clear hf6))
        have HB1 := Lib.hid (HBW.out.keep hfx)
        obtain ⟨sa1, hsa1⟩ : ∃ z, z = sa := ⟨_, rfl⟩
        obtain ⟨sn1, hsn1⟩ : ∃ z, z = sc := ⟨_, rfl⟩
        subst hsa1 hsn1
        clear hfx HBW c0 g0 hwr hwm hm1 hm0 hml r0 r1
        go_wp2_with fail
        have C1 := fun w1 => refNumber_c hd w1 (by omega)
        try rw [HZ.out] at C1
        refine (show Calls _ _ _ _ _ from C1 _).mono ?_
        rintro ex2 w2 ⟨v2, rfl, hr2, hf2⟩
        obtain ⟨a2, c2, rfl, _, _, hin2⟩ := hr2.form
        have HE2 := Lib.hid (enc_len9 (show hd < 9223372036854775808 by omega))
        have HE4 := Lib.hid (enc_len9 (show kt < 9223372036854775808 by omega))
        have HE6 := Lib.hid (enc_len9 (show x.val.size < 9223372036854775808 by omega))
        obtain ⟨v3, w3, hr3, hb3⟩ := (HB1.out.keep hf2).more a2 (enc hd).length c2 (enc hd) rfl hin2.rd (by rw [HPL.out]; have := HE2.out; omega)
        obtain ⟨oa3, on3, oc3, rfl⟩ := hb3.out.shape
        obtain ⟨d0, d1⟩ := HXW.out.keep hb3.fr (fun h => h)
        have HRUN3 := Lib.hid hr3
        have HB3 := Lib.hid hb3
        clear hr3 hb3 hr2 hf2 hin2 C1
        generalize (enc hd).length = m2 at HRUN3 ⊢
        go_wp2_with (at_builtin; refine wpList_append_run rfl _ _ 25 rfl rfl rfl HRUN3.out ?_)
        have C4 := fun w1 => refNumber_c kt w1 (by omega)
        try rw [HZ2.out] at C4
        refine (show Calls _ _ _ _ _ from C4 _).mono ?_
        rintro ex4 w4 ⟨v4, rfl, hr4, hf4⟩
        obtain ⟨a4, c4, rfl, _, _, hin4⟩ := hr4.form
        obtain ⟨v5, w5, hr5, hb5⟩ := (HB3.out.keep hf4).more a4 (enc kt).length c4 (enc kt) rfl hin4.rd (by rw [List.length_append, HPL.out]; have := HE2.out; have := HE4.out; omega)
        obtain ⟨oa5, on5, oc5, rfl⟩ := hb5.out.shape
        have hd5 := HXW.out.keep hb5.fr (fun h => h)
        clear d0 d1
        obtain ⟨d0, d1⟩ := hd5
        have HRUN5 := Lib.hid hr5
        have HB5 := Lib.hid hb5
        clear hr5 hb5 hr4 hf4 hin4 C4
        generalize (enc kt).length = m4 at HRUN5 ⊢
        go_wp2_with (at_builtin; refine wpList_append_run rfl _ _ 25 rfl rfl rfl HRUN5.out ?_)
        refine (show Calls _ _ _ _ _ from refNumber_c x.val.size _ (by omega)).mono ?_
        rintro ex6 w6 ⟨v6, rfl, hr6, hf6⟩
        obtain ⟨a6, c6, rfl, _, _, hin6⟩ := hr6.form
        obtain ⟨v7, w7, hr7, hb7⟩ := (HB5.out.keep hf6).more a6 (enc x.val.size).length c6 (enc x.val.size) rfl hin6.rd (by rw [List.length_append, List.length_append, HPL.out]; have := HE2.out; have := HE4.out; have := HE6.out; omega)
        obtain ⟨oa7, on7, oc7, rfl⟩ := hb7.out.shape
        have hd7 := HXW.out.keep hb7.fr (fun h => h)
        clear d0 d1
        obtain ⟨d0, d1⟩ := hd7
        have HRUN7 := Lib.hid hr7
        obtain ⟨P7, hP7⟩ : ∃ P7, ((P ++ enc hd) ++ enc kt) ++ enc x.val.size = P7 := ⟨_, rfl⟩
        rewrite [hP7] at hb7
        have HL7 : Hid (P7.length ≤ 20000027) := Lib.hid (by rw [← hP7]; simp only [List.length_append]; rw [HPL.out]; have := HE2.out; have := HE4.out; have := HE6.out; omega)
        have HPE : Hid (P1 = P7 ++ ((bs x.key).drop hd ++ bs x.val)) := Lib.hid (by rw [HPB.out, HKT.out, ← hP7]; simp only [List.append_assoc])
        have HB7 := Lib.hid hb7
        clear hr7 hb7 hr6 hf6 hin6 hP7 HPB HB5 HB3 HB1
        generalize (enc x.val.size).length = m6 at HRUN7 ⊢
        go_wp2_with (at_builtin; refine wpList_append_run rfl _ _ 25 rfl rfl rfl HRUN7.out ?_)
        clear d0 d1
        go_loopw [5, 9] (fun vo j wr => ∃ m : Nat, j = .int .i64 ((hd + m : Nat) : Int) ∧ hd + m ≤ x.key.size ∧ BW w wr vo (.slice sa1 Q1.length sn1) (P7 ++ ((bs x.key).drop hd).take m) (asI Q1)) (fun _ j _ => x.key.size - (intOf j).toNat)
        case atStart => exact ⟨0, by first | rfl | (have := HZ.out; congr 1; omega), by omega, by simpa using HB7.out⟩
        case round =>
          obtain ⟨m, rfl, hm2, hbw2⟩ := hrel
          have HB8 := Lib.hid hbw2
          obtain ⟨oa8, on8, oc8, rfl⟩ := hbw2.out.shape
          obtain ⟨d0, d1⟩ := HXW.out.keep hbw2.fr (fun h => h)
          have hlen8 : (P7 ++ ((bs x.key).drop hd).take m).length ≤ 20003027 := by
            rw [List.length_append, List.length_take, List.length_drop, bs_length]
            have := HL7.out
            omega
          obtain ⟨jj, hjj⟩ : ∃ jj, hd + m = jj := ⟨_, rfl⟩
          clear hbw2
          rw [hjj] at hm2 ⊢
          by_cases h2 : jj < x.key.size
          · have hg := ba_getD x.key jj h2
            have HTC := Lib.hid (take_cut (bs x.key) hd m (by rw [bs_length]; omega))
            rw [hjj] at HTC
            obtain ⟨v9, w9, hr9, hb9⟩ := HB8.out.more1 x.key[jj] _ rfl (by omega)
            have HRUN9 := Lib.hid hr9
            have HB9 : Hid (BW w w9 v9 (.slice sa1 Q1.length sn1) (P7 ++ ((bs x.key).drop hd).take (m + 1)) (asI Q1)) := Lib.hid (by
              rw [HTC.out]
              have e9 : (bs x.key).getD jj 0 = x.key[jj] := hg
              rw [e9, ← List.append_assoc]
              exact hb9)
            have HJ := Lib.hid hjj
            clear hr9 hb9 hg hjj hlen8
            go_wp2_with (at_builtin; refine wpList_append_run rfl _ _ 25 rfl rfl rfl HRUN9.out ?_)
            go_roundw
            case rel => exact ⟨m + 1, by have := HJ.out; congr 1; omega, by have := HJ.out; omega, HB9.out⟩
            case measure => simp [intOf]; omega
          · have hje : jj = x.key.size := by omega
            have HB10 : Hid (BW w wr (.slice oa8 on8 oc8) (.slice sa1 Q1.length sn1) (P7 ++ (bs x.key).drop hd) (asI Q1)) := Lib.hid (by
              have := HB8.out
              rw [List.take_of_length_le (by rw [List.length_drop, bs_length]; omega)] at this
              exact this)
            clear HB8 hlen8 d0 d1 hje hjj
            have hd9 := HXW.out.keep HB10.out.fr (fun h => h)
            obtain ⟨d0, d1⟩ := hd9
            go_wp2_with fail
            clear d0 d1
            go_loopw [5, 10] (fun vo j wr => ∃ m : Nat, j = .int .i64 (m : Int) ∧ m ≤ x.val.size ∧ BW w wr vo (.slice sa1 Q1.length sn1) ((P7 ++ (bs x.key).drop hd) ++ (bs x.val).take m) (asI Q1)) (fun _ j _ => x.val.size - (intOf j).toNat)
            case atStart => exact ⟨0, rfl, by omega, by simpa using HB10.out⟩
            case round =>
              clear HB10
              obtain ⟨m, rfl, hm2, hbw2⟩ := hrel
              have HB8 := Lib.hid hbw2
              obtain ⟨oa8, on8, oc8, rfl⟩ := hbw2.out.shape
              obtain ⟨d0, d1⟩ := HXW.out.keep hbw2.fr (fun h => h)
              have hlen8 : ((P7 ++ (bs x.key).drop hd) ++ (bs x.val).take m).length ≤ 20009027 := by
                rw [List.length_append, List.length_append, List.length_take, List.length_drop, bs_length, bs_length]
                have := HL7.out
                omega
              clear hbw2
              by_cases h2 : m < x.val.size
              · have hg := ba_getD x.val m h2
                have HTC := Lib.hid (take_snoc (bs x.val) m (by rw [bs_length]; omega))
                obtain ⟨v9, w9, hr9, hb9⟩ := HB8.out.more1 x.val[m] _ rfl (by omega)
                have HRUN9 := Lib.hid hr9
                have HB9 : Hid (BW w w9 v9 (.slice sa1 Q1.length sn1) ((P7 ++ (bs x.key).drop hd) ++ (bs x.val).take (m + 1)) (asI Q1)) := Lib.hid (by
                  rw [HTC.out]
                  have e9 : (bs x.val).getD m 0 = x.val[m] := hg
                  rw [e9, ← List.append_assoc]
                  exact hb9)
                clear hr9 hb9 hg hlen8
                go_wp2_with (at_builtin; refine wpList_append_run rfl _ _ 25 rfl rfl rfl HRUN9.out ?_)
                go_roundw
                case rel => exact ⟨m + 1, by simp, by omega, HB9.out⟩
                case measure => simp [intOf]; omega
              · have HB11 : Hid (BW w wr (.slice oa8 on8 oc8) (.slice sa1 Q1.length sn1) (pairsB e l (k + 1)) (asI (startsN e l (k + 1)))) := Lib.hid (by
                  have := HB8.out
                  rw [List.take_of_length_le (by rw [bs_length]; omega)] at this
                  rw [HP1.out, HQ1.out, HPE.out, ← List.append_assoc]
                  exact this)
                clear HB8 hlen8
                go_wp2_with fail
                go_roundw
                case rel => exact ⟨k + 1, by simp, by omega, HB11.out⟩
                case measure => simp [intOf]; omega
    · obtain rfl : k = n := by omega
      have HFIN : Hid (blockB e l = ((pairsB e l k ++ wordsB (startsN e l k)) ++ word4 (startsN e l k).length) ++ [UInt8.ofNat e]) := Lib.hid (by unfold blockB; rw [HN.out])
      have HSL : Hid (∀ x ∈ startsN e l k, x < 20000001) := Lib.hid (startsN_lt e l 20000001 k fun j hj => by have := HLEN.out j (by omega); omega)
      generalize startsN e l k = Q at hbw HFIN HSL hsl
      generalize pairsB e l k = P at hbw HFIN hpl
      obtain ⟨oa, on_, oc, rfl⟩ := hbw.out.shape
      obtain ⟨sa, sc, hvs, _, _, _⟩ := hbw.starts.form
      rw [asI_len] at hvs
      subst hvs
      obtain ⟨q, hq⟩ : ∃ q, Q.length = q := ⟨_, rfl⟩
      have HQL := Lib.hid hq
      have hql : q ≤ 3000 := by omega
      rw [hq] at hbw ⊢
      have HBW := Lib.hid hbw
      have h256 : (e : Int) % 256 = (e : Int) := by omega
      clear hbw hq hsl
      go_wp2_with fail
      go_loopw [5, 11] (fun vo j wr => ∃ m : Nat, j = .int .i64 (m : Int) ∧ m ≤ q ∧ BW w wr vo (.slice sa q sc) (P ++ wordsB (Q.take m)) (asI Q)) (fun _ j _ => q - (intOf j).toNat)
      case atStart => exact ⟨0, rfl, Nat.zero_le _, by simpa [wordsB] using HBW.out⟩
      case round =>
        clear HBW
        obtain ⟨m, rfl, hm2, hbw2⟩ := hrel
        have HB8 := Lib.hid hbw2
        obtain ⟨oa8, on8, oc8, rfl⟩ := hbw2.out.shape
        have hlen8 : (P ++ wordsB (Q.take m)).length ≤ 20012000 := by
          rw [List.length_append, wordsB_len, List.length_take]
          omega
        by_cases h2 : m < q
        · obtain ⟨sa', sc', hvs, _, _, hrd⟩ := hbw2.starts.form
          have hsa : sa = sa' := by injection hvs
          subst hsa
          rw [asI_len, HQL.out] at hrd
          obtain ⟨b5, o5, _, rfl, hcell⟩ := hrd (by omega)
          have c5 := hcell m h2
          rw [asI_get] at c5
          have HWS := Lib.hid (words_snoc Q m (by rw [HQL.out]; exact h2))
          have hq5 := HSL.out _ (getD_memN Q m (by rw [HQL.out]; exact h2))
          obtain ⟨z, hz⟩ : ∃ z, Q.getD m 0 = z := ⟨_, rfl⟩
          rw [hz] at c5 hq5 HWS
          clear hbw2 hcell hrd hvs hz
          go_wp2_with fail
          refine (show Calls _ _ _ _ _ from refWord_c z (by omega) _).mono ?_
          rintro ex6 w6 ⟨v6, rfl, hr6, hf6⟩
          obtain ⟨a6, c6, rfl, _, _, hin6⟩ := hr6.form
          obtain ⟨v7, w7, hr7, hb7⟩ := (HB8.out.keep hf6).more a6 (word4 z).length c6 (word4 z) rfl hin6.rd (by rw [word4_len]; omega)
          rw [List.append_assoc, ← HWS.out] at hb7
          have HRUN7 := Lib.hid hr7
          have HB7 := Lib.hid hb7
          clear hr7 hb7 hr6 hf6 hin6 hlen8 c5
          generalize (word4 z).length = m6 at HRUN7 ⊢
          go_wp2_with (at_builtin; refine wpList_append_run rfl _ _ 25 rfl rfl rfl HRUN7.out ?_)
          go_roundw
          case rel => exact ⟨m + 1, by simp, by omega, HB7.out⟩
          case measure => simp [intOf]; omega
        · obtain rfl : m = q := by omega
          clear hbw2
          have HB9 : Hid (BW w wr (.slice oa8 on8 oc8) (.slice sa m sc) (P ++ wordsB Q) (asI Q)) := Lib.hid (by
            have := HB8.out
            rw [List.take_of_length_le (by rw [HQL.out]; omega)] at this
            exact this)
          have hlen9 : (P ++ wordsB Q).length ≤ 20012000 := by
            rw [List.length_append, wordsB_len, HQL.out]
            omega
          clear HB8 hlen8
          go_wp2_with fail
          refine (show Calls _ _ _ _ _ from refWord_c m (by omega) _).mono ?_
          rintro ex6 w6 ⟨v6, rfl, hr6, hf6⟩
          obtain ⟨a6, c6, rfl, _, _, hin6⟩ := hr6.form
          obtain ⟨v7, w7, hr7, hb7⟩ := (HB9.out.keep hf6).more a6 (word4 m).length c6 (word4 m) rfl hin6.rd (by rw [word4_len]; omega)
          obtain ⟨oa7, on7, oc7, rfl⟩ := hb7.out.shape
          obtain ⟨v8, w8, hr8, hb8⟩ := hb7.more1 (UInt8.ofNat e) (e : Int) (by rw [toNat_ofNat (by omega)]) (by rw [List.length_append, word4_len]; omega)
          have HRUN7 := Lib.hid hr7
          have HRUN8 := Lib.hid hr8
          have HE : Hid (NewRow (blockB e l) w (.returned v8) w8) := Lib.hid (by
            rw [HFIN.out, HQL.out]
            exact hb8.done)
          clear hr7 hb7 hr6 hf6 hin6 hr8 hb8 hlen9
          generalize (word4 m).length = m6 at HRUN7 ⊢
          go_wp2_with (at_builtin; first | refine wpList_append_run rfl _ _ 25 rfl rfl rfl HRUN7.out ?_ | refine wpList_append_run rfl _ _ 25 rfl rfl rfl HRUN8.out ?_)
          go_ret
          exact HE.out
end Go.Proofs.Ytiacdakaolghmaa
