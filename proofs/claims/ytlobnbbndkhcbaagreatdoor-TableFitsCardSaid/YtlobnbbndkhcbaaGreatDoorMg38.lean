/-
  Texts of layer 13 and of what it stands on, one behind the other.
-/
import Derived.Test.YtlobnbbndkhcbaaGreatDoorMg36
import Derived.Test.YtlobnbbndkhcbaaGreatDoorMg37

/- Layer 13, the program's own: Build. -/
namespace Go.Proofs.YtlobnbbndkhcbaaGreatDoor
set_option linter.unusedVariables false
set_option linter.unusedSimpArgs false
open Go.RowKit

theorem tail_len (D : List UInt8) (I : List Pr) (fb : List UInt8) (n : Nat) : (tailT D I fb n).length = D.length + ((fblk 1 I).length + ((frameL fb).length + 24)) := by
  unfold tailT
  rw [List.length_append, List.length_append, List.length_append]
  unfold footB
  rw [List.length_append, footN_len, wordL_length]
  rfl
/-- The bounds of what a table is built of. -/
structure Few (l : List Ent) : Prop where
  len : l.length ≤ 17000
  us : ∀ x ∈ l, x.u.size ≤ 1000
  vs : ∀ x ∈ l, x.val.size ≤ 50000
theorem Few.low {l : List Ent} (h : Few l) : Low 50000 (Pairs l) := pairs_low (by omega) h.vs
theorem TBp_len {l : List Ent} {o : Opt} (hf : Few l) (hr : RightL l) (ho : OkO o) : 24 ≤ (TBp l o).length ∧ (TBp l o).length ≤ 100000000000000 := by
  have h1 := (rpre_right l).1 hr
  have hp := pairs_all h1.2
  have hlow := hf.low
  rw [hp] at hlow
  have hlen := prsE_len l
  have hfl := hf.len
  unfold TBp
  rw [tail_len]
  have hch := cuts_chain o.b.toNat (prsE l)
  have hcl := chain_le _ _ _ hch
  have hcc : (cuts o.b.toNat (prsE l)).length * 1800000000 ≤ 17000 * 1800000000 := Nat.mul_le_mul_right _ (by omega)
  have q1 := lay_len o.e.toNat (prsE l) (cuts o.b.toNat (prsE l)) fun c _ => fblk_sub (by omega) hlow c
  have q2 : Low 50000 (layG o.e.toNat (prsE l) (cuts o.b.toNat (prsE l))).2 := by
    rw [lay_is]
    exact idxs_low _ (by omega) hlow (fun c => fblk_sub (by omega) hlow c) _ 0 0 _ hch (Nat.le_refl _) (by omega)
  have q3 : (layG o.e.toNat (prsE l) (cuts o.b.toNat (prsE l))).2.length ≤ 17000 := by rw [layG_len]; omega
  have q4 := fblk_len (e := 1) q3 q2
  have q5 : (filP l o.n.toNat).length ≤ 1000001 := by
    unfold filP
    rw [List.length_cons, ← filK_all, filK_len _ _ _ (Nat.le_refl _)]
    have : l.length * o.n.toNat ≤ 17000 * 32 := Nat.mul_le_mul hfl (by have := ho.2.2.2.2.2; omega)
    unfold sizeB
    omega
  rw [frameL_length]
  have q6 := sizeL_le (n := (filP l o.n.toNat).length) (by omega)
  omega
set_option maxRecDepth 20000 in
set_option maxHeartbeats 4000000 in
theorem tbuild_c (w : World) (S : Nat → Prop) (a : Option Addr) (n cap : Nat) (l : List Ent) (o : Opt) (most : Int) (ht : Tab w) (hn : l.length = n) (hc : n ≤ cap) (hm : cap ≤ maxLen) (hfew : Few l) (hp : Ents w S a l) :
    Calls Tryz.prog 11 #[.slice a n cap, optV o, .int .i64 most] w (BuildT TBp l o most w) := by
  obtain ⟨W, hW⟩ : ∃ W, w.alloc (.cells #[.int .i64 o.b, .int .i64 o.e, .int .i64 o.n] 24) = W := ⟨_, rfl⟩
  have f0 : Fr No w W := by rw [← hW]; exact (Fr.refl No w).alloc _
  have a0 : At W w.heap.size 24 #[.int .i64 o.b, .int .i64 o.e, .int .i64 o.n] := by rw [← hW]; exact At.new _ _ _
  have q0 := a0.cell 0
  have q1 := a0.cell 1
  have q2 := a0.cell 2
  simp at q0 q1 q2
  have CK := Lib.hid (tcheck_c W o)
  have HP := Lib.hid (hp.sub (T := fun k => k < w.heap.size) fun k hk _ => hk)
  have HT := Lib.hid ht
  have HN := Lib.hid hn
  have A0 := Lib.hid a0
  have F0 := Lib.hid f0
  by_cases hok : OkO o
  · have HOK := Lib.hid hok
    rw [decide_eq_true hok] at CK
    have hbe : buildTE TBp l o most = if ¬ RightL l then 130 else if most < (TBp l o).length then 201 else 0 := by unfold buildTE; rw [if_neg (fun h => h hok)]
    have HBE := Lib.hid hbe
    have C2 := Lib.hid (fun w => pairs_c a cap n w)
    have HCO : Hid (∀ B1 w1, Fr No w w1 → w1.cell? ⟨B1, 0, none⟩ = some (.slice a n cap) → Calls Tryz.prog 34 #[seqP B1] w1 (NewPrs (Pairs l) w1)) := Lib.hid fun B1 w1 f1 b1 => by
      subst hn
      exact collectP_c a cap l (fun k => k < w.heap.size) B1 w1 (by have := hfew.len; omega) hc b1 (HP.out.keep f1 (fun _ _ h => h)) (fun k hk => Nat.lt_of_lt_of_le hk f1.size)
    have HRR := Lib.hid (rpre_right l)
    have HPL := Lib.hid (pairs_len l)
    have HPE := Lib.hid (rpre_is l).1
    have HFEW := Lib.hid hfew
    rw [← hW] at q0 q1 q2
    have HW := Lib.hid hW
    have hnw : n ≤ 17000 := by have := hfew.len; omega
    clear hW f0 a0 hp ht hn hfew hbe hok
    unfold optV
    go_enter Tryz.func11, Tryz.ntmps11
    go_wp2_with fail
    rw [HW.out]
    refine (show Calls _ _ _ _ _ from CK.out).mono ?_
    rintro e1 w1 ⟨rfl, f1⟩
    have F1 := Lib.hid (F0.out.trans f1)
    have A1 := Lib.hid (A0.out.keep f1 (fun h => h))
    clear f1 CK q0 q1 q2
    go_wp2_with fail
    refine (C2.out w1).mono ?_
    rintro e2 w2 ⟨B1, rfl, f2, b1, _⟩
    have F2 := Lib.hid (F1.out.trans f2)
    have A2 := Lib.hid (A1.out.keep f2 (fun h => h))
    have C3 := Lib.hid (HCO.out B1 w2 F2.out b1)
    clear f2 b1 HCO C2
    go_wp2_with fail
    refine (show Calls _ _ _ _ _ from C3.out).mono ?_
    rintro e3 w3 ⟨v3, rfl, r3, f3⟩
    obtain ⟨pa, pc, rfl, k1, k2, p3⟩ := r3.prs
    obtain ⟨pn, hpn⟩ : ∃ pn, (Pairs l).length = pn := ⟨_, rfl⟩
    rw [hpn] at k1 ⊢
    have F3 := Lib.hid (F2.out.trans f3)
    have A3 := Lib.hid (A2.out.keep f3 (fun h => h))
    have P3 := Lib.hid p3
    have HPN := Lib.hid hpn
    have hpm : pn ≤ n := by rw [← hpn, HPL.out, ← HN.out]; exact HPE.out
    clear r3 f3 p3 C3 hpn
    by_cases hright : 1 ≤ n ∧ pn = n
    · have hRL : RightL l := HRR.out.2 ⟨by rw [HN.out]; exact hright.1, by rw [← HPL.out, HPN.out, HN.out]; exact hright.2⟩
      have hPE : Pairs l = prsE l := pairs_all ((HRR.out.1 hRL).2)
      have HRL := Lib.hid hRL
      have hbl := TBp_len HFEW.out hRL HOK.out
      have HBE2 : Hid (buildTE TBp l o most = if most < (TBp l o).length then 201 else 0) := Lib.hid (by rw [HBE.out, if_neg (fun h => h hRL)])
      obtain ⟨rfl, hpn1⟩ : pn = n ∧ 1 ≤ n := ⟨hright.2, hright.1⟩
      have d1 : ((pn : Int) == 0) = false := by rw [beq_eq_false_iff_ne]; omega
      have d2 : decide ((pn : Int) < (pn : Int)) = false := decide_eq_false (by omega)
      have hlow := HFEW.out.low
      have hord := pairs_ord l
      have CL := Lib.hid (lay_c w3 (fun k => k < w3.heap.size) pa pn pc (Pairs l) o (HT.out.keep F3.out (fun h => h)) HOK.out HPN.out k1 k2 hnw hlow (P3.out.sub fun k hk _ => hk) hord (fun k hk => hk))
      have hfil : ∃ bits : Nat, o.n = (bits : Int) ∧ 1 ≤ bits ∧ bits ≤ 32 := ⟨o.n.toNat, by have := HOK.out.2.2.2.2; omega, by have := HOK.out.2.2.2.2; omega, by have := HOK.out.2.2.2.2; omega⟩
      obtain ⟨bits, hbits, hb1, hb2⟩ := hfil
      have htb : TBp l o = tailT (layG o.e.toNat (Pairs l) (cuts o.b.toNat (Pairs l))).1 (layG o.e.toNat (Pairs l) (cuts o.b.toNat (Pairs l))).2 (filP l bits) pn := by
        unfold TBp
        rw [hPE, hbits, Int.toNat_natCast, HN.out]
      have hch := cuts_chain o.b.toNat (Pairs l)
      rw [HPN.out] at hch
      have hcl := chain_le _ _ _ hch
      have hcc : (cuts o.b.toNat (Pairs l)).length * 1800000000 ≤ 17000 * 1800000000 := Nat.mul_le_mul_right _ (by omega)
      have hdl := lay_len o.e.toNat (Pairs l) (cuts o.b.toNat (Pairs l)) fun c _ => fblk_sub (by rw [HPN.out]; exact hnw) hlow c
      have hIl : (layG o.e.toNat (Pairs l) (cuts o.b.toNat (Pairs l))).2.length ≤ 17000 := by rw [layG_len]; omega
      have hIw : Low 50000 (layG o.e.toNat (Pairs l) (cuts o.b.toNat (Pairs l))).2 := by
        rw [lay_is]
        exact idxs_low _ (by omega) hlow (fun c => fblk_sub (by rw [HPN.out]; exact hnw) hlow c) _ 0 0 pn hch (by rw [HPN.out]; exact Nat.le_refl _) (by omega)
      have hIo : ordP (layG o.e.toNat (Pairs l) (cuts o.b.toNat (Pairs l))).2 := by
        rw [lay_is]
        exact idxs_ord _ hord _ 0 0 pn hch (by rw [HPN.out]; exact Nat.le_refl _)
      have hdl2 : (layG o.e.toNat (Pairs l) (cuts o.b.toNat (Pairs l))).1.length ≤ 17000 * 1800000000 := Nat.le_trans hdl hcc
      generalize (layG o.e.toNat (Pairs l) (cuts o.b.toNat (Pairs l))).1 = D at *
      generalize (layG o.e.toNat (Pairs l) (cuts o.b.toNat (Pairs l))).2 = I at *
      have HTB := Lib.hid htb
      have HDL := Lib.hid hdl2
      have HIL := Lib.hid hIl
      have HIW := Lib.hid hIw
      have HIO := Lib.hid hIo
      have HBL := Lib.hid hbl
      have h30 := A3.out.cell 0
      have h31 := A3.out.cell 1
      have h32 := A3.out.cell 2
      simp at h30 h31 h32
      unfold optV at CL
      have HBITS := Lib.hid hbits
      clear hbits hright hRL hPE hlow hord htb hch hcl hcc hdl hIl hIw hIo hdl2 hbl hpm P3
      go_wp2_with fail
      refine (show Calls _ _ _ _ _ from CL.out).mono ?_
      rintro e4 w4 ⟨vd, vi, rfl, rd, ri, f4⟩
      obtain ⟨da, dc, rfl, _, _, di⟩ := rd.form
      obtain ⟨ia, ic, rfl, ki1, ki2, ip⟩ := ri.prs
      have F4 := Lib.hid (F3.out.trans f4)
      have A4 := Lib.hid (A3.out.keep f4 (fun h => h))
      have DI := Lib.hid di
      have IP := Lib.hid ip
      have CF := Lib.hid (filterOf_c w4 (fun k => k < w.heap.size) a pn cap l bits (HT.out.keep F4.out (fun h => h)) HN.out (by omega) hb1 hb2 (HP.out.keep F4.out (fun _ _ h => h)) HFEW.out.us)
      have h42 := A4.out.cell 2
      simp at h42
      have HB42 := Lib.hid h42
      clear h42
      have h42 : w4.cell? ⟨w.heap.size, 2, none⟩ = some (.int .i64 (bits : Int)) := by rw [← HBITS.out]; exact HB42.out
      obtain ⟨dn, hdn⟩ : ∃ dn, D.length = dn := ⟨_, rfl⟩
      obtain ⟨im, him⟩ : ∃ im, I.length = im := ⟨_, rfl⟩
      rw [him] at ki1
      rw [hdn, him]
      have HDN := Lib.hid hdn
      have HIM := Lib.hid him
      clear rd ri di ip f4 CL h30 h31 h32 hdn him
      go_wp2_with fail
      refine (show Calls _ _ _ _ _ from CF.out).mono ?_
      rintro e5 w5 ⟨b, g, rfl, hf5, f5, _, _⟩
      have F5 := Lib.hid (F4.out.trans f5)
      have hfl5 : (filBs l bits).length ≤ 1000000 := by
        rw [← filK_all, filK_len _ _ _ (Nat.le_refl _)]
        have h9 : l.length * bits ≤ 17000 * 32 := Nat.mul_le_mul (by rw [HN.out]; exact hnw) hb2
        unfold sizeB
        omega
      have CR := Lib.hid (rest_c w5 (Gr No w3 w4) da ia dn dc im ic D I b g (filBs l bits) (probF bits) pn (HT.out.keep F5.out (fun h => h)) HDN.out (by have := HDL.out; rw [HDN.out] at this; omega) (DI.out.keep f5 (fun _ _ h => h)).rd HIM.out ki1 ki2 (by rw [← HIM.out]; exact HIL.out) HIW.out (IP.out.keep f5 (fun _ _ h => h)) HIO.out hf5 (by have := probF_le bits hb2; omega) hfl5 (by omega))
      rw [show UInt8.ofNat (probF bits) :: filBs l bits = filP l bits from rfl, ← HTB.out] at CR
      clear hf5 f5 CF hfl5 h42
      go_wp2_with fail
      refine (show Calls _ _ _ _ _ from CR.out).mono ?_
      rintro e6 w6 ⟨v6, rfl, r6, f6⟩
      have F6 := Lib.hid (F5.out.trans f6)
      have r6 := r6.toZ (by have := HBL.out.1; omega)
      have R6 : Hid (RowZ w6 (Gr No w w6) v6 (TBp l o)) := Lib.hid (r6.sub fun k _ hk => hk.elim (fun h => h.elim) fun h => .inr ⟨Nat.le_trans F5.out.size h.1, h.2⟩)
      obtain ⟨ta, tc, rfl, _, _, _⟩ := r6.form
      obtain ⟨tn, htn⟩ : ∃ tn, (TBp l o).length = tn := ⟨_, rfl⟩
      rw [htn] at HBE2
      rw [htn]
      rw [htn] at R6
      clear r6 f6 CR htn
      by_cases hbig : most < tn
      · have d9 : decide ((tn : Int) > most) = true := decide_eq_true hbig
        have HR : Hid (BuildT TBp l o most w (.returned (.tuple #[.slice none 0 0, .int .i64 201])) w6) := Lib.hid ⟨_, by rw [HBE2.out, if_pos hbig], .inl ⟨rfl, by rw [HBE2.out, if_pos hbig, if_neg (by decide)]⟩, F6.out⟩
        clear hbig
        go_wp2_with fail
        go_ret2
        exact HR.out
      · have d9 : decide ((tn : Int) > most) = false := decide_eq_false hbig
        have HR : Hid (BuildT TBp l o most w (.returned (.tuple #[.slice ta tn tc, .int .i64 0])) w6) := Lib.hid ⟨_, by rw [HBE2.out, if_neg hbig], .inr (by rw [HBE2.out, if_neg hbig, if_pos rfl]; exact R6.out), F6.out⟩
        clear hbig
        go_wp2_with fail
        go_ret2
        exact HR.out
    · have hNR : ¬ RightL l := fun h => by
        have h9 := HRR.out.1 h
        rw [HN.out] at h9
        exact hright ⟨h9.1, by rw [← HPN.out, HPL.out]; exact h9.2⟩
      have HR : Hid (BuildT TBp l o most w (.returned (.tuple #[.slice none 0 0, .int .i64 130])) w3) := Lib.hid ⟨_, by rw [HBE.out, if_pos hNR], .inl ⟨rfl, by rw [HBE.out, if_pos hNR, if_neg (by decide)]⟩, F3.out⟩
      clear hNR P3
      by_cases hn0 : n = 0
      · have d1 : ((n : Int) == 0) = true := by rw [beq_iff_eq]; omega
        go_wp2_with fail
        go_ret2
        exact HR.out
      · have d1 : ((n : Int) == 0) = false := by rw [beq_eq_false_iff_ne]; omega
        have d2 : decide ((pn : Int) < (n : Int)) = true := decide_eq_true (by omega)
        go_wp2_with fail
        go_ret2
        exact HR.out
  · rw [decide_eq_false hok] at CK
    have HR : Hid (∀ w', Fr No w w' → BuildT TBp l o most w (.returned (.tuple #[.slice none 0 0, .int .i64 70])) w') := Lib.hid fun w' f => by
      have hb : buildTE TBp l o most = 70 := by unfold buildTE; rw [if_pos hok]
      exact ⟨_, by rw [hb], .inl ⟨rfl, by rw [hb, if_neg (by decide)]⟩, f⟩
    rw [← hW] at q0 q1 q2
    have HW := Lib.hid hW
    clear hW f0 a0 hp ht hn hok
    unfold optV
    go_enter Tryz.func11, Tryz.ntmps11
    go_wp2_with fail
    rw [HW.out]
    refine (show Calls _ _ _ _ _ from CK.out).mono ?_
    rintro e1 w1 ⟨rfl, f1⟩
    have HRR := Lib.hid (HR.out w1 (F0.out.trans f1))
    clear f1 CK q0 q1 q2
    go_wp2_with fail
    go_ret2
    exact HRR.out
end Go.Proofs.YtlobnbbndkhcbaaGreatDoor
