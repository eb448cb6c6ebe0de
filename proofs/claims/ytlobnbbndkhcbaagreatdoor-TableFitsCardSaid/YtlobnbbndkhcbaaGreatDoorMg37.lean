/-
  Texts of layer 13 and of what it stands on, one behind the other.
-/
import Derived.Test.YtlobnbbndkhcbaaGreatDoorMg31
import Derived.Test.YtlobnbbndkhcbaaGreatDoorMg35

/- Layer 13, the program's own: layRest. -/
namespace Go.Proofs.YtlobnbbndkhcbaaGreatDoor
set_option linter.unusedVariables false
set_option linter.unusedSimpArgs false
open Go.RowKit

set_option maxRecDepth 20000 in
set_option maxHeartbeats 4000000 in
theorem rest_c (w : World) (S : Nat → Prop) (da ia : Option Addr) (dn dc im ic : Nat) (D : List UInt8) (I : List Pr) (b g : Nat) (fb : List UInt8) (p n : Nat) (ht : Tab w) (hd : D.length = dn) (hd2 : dn ≤ 40000000000000) (hr : Rd w da D)
    (hi : I.length = im) (hic : im ≤ ic) (hicm : ic ≤ maxLen) (h17 : im ≤ 17000) (hlow : Low 50000 I) (hp : Prs w S ia I) (ho : ordP I) (hf : Fil w b g fb p) (hp2 : p ≤ 64) (hfl : fb.length ≤ 1000000) (hn : n ≤ 1000000) :
    Calls Tryz.prog 37 #[.slice da dn dc, .slice ia im ic, .pointer (some ⟨b, 0, none⟩), .int .i64 (n : Int)] w (NewRow (tailT D I (UInt8.ofNat p :: fb) n) w) := by
  have C1 := Lib.hid (frameOf_c w S ia im ic I 1 ht hi hic hicm (by omega) (low_mono hlow (by omega)) hp ho (by omega) (by omega))
  have HL1 := Lib.hid (fblk_len (e := 1) (by omega) hlow)
  have HT := Lib.hid ht
  have HR := Lib.hid hr
  have HD := Lib.hid hd
  have HF := Lib.hid hf
  have HFL := Lib.hid hfl
  have HTT : Hid (tailT D I (UInt8.ofNat p :: fb) n = D ++ (fblk 1 I ++ (frameL (UInt8.ofNat p :: fb) ++ footB [dn, (fblk 1 I).length, dn + (fblk 1 I).length, (frameL (UInt8.ofNat p :: fb)).length, n]))) := Lib.hid (by unfold tailT; rw [hd])
  clear ht hr hd hf hfl hi hlow hp ho
  generalize tailT D I (UInt8.ofNat p :: fb) n = Z at *
  generalize fblk 1 I = F1 at *
  go_enter Tryz.func37, Tryz.ntmps37
  go_wp2_with fail
  refine (show Calls _ _ _ _ _ from C1.out).mono ?_
  rintro e1 w1 ⟨v1, rfl, r1, f1⟩
  obtain ⟨a1, c1, rfl, _, _, i1⟩ := r1.form
  obtain ⟨n1, hn1⟩ : ∃ n1, F1.length = n1 := ⟨_, rfl⟩
  have hl1 := HL1.out
  rw [hn1] at hl1 ⊢
  have HN1 := Lib.hid hn1
  have I1 := Lib.hid i1
  have FF1 := Lib.hid f1
  have C2 := Lib.hid (fbytes_c b g fb p w1 (HF.out.keep f1 (fun h => h) (fun h => h)) hp2 HFL.out)
  clear r1 i1 f1 hn1 C1
  go_wp2_with fail
  refine (show Calls _ _ _ _ _ from C2.out).mono ?_
  rintro e2 w2 ⟨v2, rfl, r2, f2⟩
  obtain ⟨a2, c2, rfl, _, _, i2⟩ := r2.form
  have hbl : (UInt8.ofNat p :: fb).length ≤ 1000001 := by rw [List.length_cons]; have := HFL.out; omega
  generalize UInt8.ofNat p :: fb = B at *
  obtain ⟨n2, hn2⟩ : ∃ n2, B.length = n2 := ⟨_, rfl⟩
  rw [hn2] at hbl ⊢
  have FF2 := Lib.hid (FF1.out.trans f2)
  have C3 := Lib.hid (frame_c a2 n2 c2 B w2 hn2 (by omega) i2.rd (HT.out.keep FF2.out (fun h => h)))
  have I1 := Lib.hid (I1.out.keep f2 (fun _ _ h => h))
  have HBL : Hid ((frameL B).length ≤ 2000000) := Lib.hid (by
    rw [frameL_length]
    have := sizeL_le (n := B.length) (by omega)
    omega)
  clear r2 i2 f2 hn2 C2
  go_wp2_with fail
  refine (show Calls _ _ _ _ _ from C3.out).mono ?_
  rintro e3 w3 ⟨v3, rfl, r3, f3⟩
  obtain ⟨a3, c3, rfl, _, _, i3⟩ := r3.form
  generalize frameL B = F3 at *
  obtain ⟨n3, hn3⟩ : ∃ n3, F3.length = n3 := ⟨_, rfl⟩
  have hl3 := HBL.out
  rw [hn3] at hl3 ⊢
  have HN3 := Lib.hid hn3
  have I3 := Lib.hid i3
  have I1 := Lib.hid (I1.out.keep f3 (fun _ _ h => h))
  have FF3 := Lib.hid (FF2.out.trans f3)
  clear r3 i3 f3 hn3 C3
  obtain ⟨W4, hW4⟩ : ∃ W4, w3.alloc (.cells #[.int .i64 (dn : Int), .int .i64 (n1 : Int), .int .i64 ((dn + n1 : Nat) : Int), .int .i64 (n3 : Int), .int .i64 (n : Int)] 124) = W4 := ⟨_, rfl⟩
  have f4 : Fr No w3 W4 := by rw [← hW4]; exact (Fr.refl No w3).alloc _
  have a4 : At W4 w3.heap.size 124 #[.int .i64 (dn : Int), .int .i64 (n1 : Int), .int .i64 ((dn + n1 : Nat) : Int), .int .i64 (n3 : Int), .int .i64 (n : Int)] := by rw [← hW4]; exact At.new _ _ _
  have C4 := Lib.hid (foot_c dn n1 (dn + n1) n3 n W4 (HT.out.keep (FF3.out.trans f4) (fun h => h)))
  have HFT : Hid ((footB [dn, n1, dn + n1, n3, n]).length = 24) := Lib.hid (by unfold footB; rw [List.length_append, footN_len, wordL_length]; rfl)
  obtain ⟨sm, hsm⟩ : ∃ sm, dn + n1 = sm := ⟨_, rfl⟩
  rw [hsm] at hW4 a4 C4 HFT
  have HSM := Lib.hid hsm
  have hsi : (dn : Int) + (n1 : Int) = (sm : Int) := by omega
  have k0 := a4.cell 0
  have k1 := a4.cell 1
  have k2 := a4.cell 2
  have k3 := a4.cell 3
  have k4 := a4.cell 4
  simp at k0 k1 k2 k3 k4
  rw [← hW4] at k0 k1 k2 k3 k4
  have HW4 := Lib.hid hW4
  have FF4 := Lib.hid (FF3.out.trans f4)
  have I1 := Lib.hid (I1.out.keep f4 (fun _ _ h => h))
  have I3 := Lib.hid (I3.out.keep f4 (fun _ _ h => h))
  obtain ⟨FB, hFB⟩ : ∃ FB, footB [dn, n1, sm, n3, n] = FB := ⟨_, rfl⟩
  rw [hFB] at C4 HFT
  have HFB := Lib.hid hFB
  clear hFB hsm
  clear a4 f4 hW4
  go_wp2_with fail
  rw [HW4.out]
  refine (show Calls _ _ _ _ _ from C4.out).mono ?_
  rintro e5 w5 ⟨v5, rfl, r5, f5⟩
  obtain ⟨a5, c5, rfl, _, _, i5⟩ := r5.form
  rw [HFT.out]
  obtain ⟨W6, hW6⟩ : ∃ W6, w5.alloc (.cells #[.slice da dn dc, .slice a1 n1 c1, .slice a3 n3 c3, .slice a5 24 c5] 27) = W6 := ⟨_, rfl⟩
  have f6 : Fr No w5 W6 := by rw [← hW6]; exact (Fr.refl No w5).alloc _
  have a6 : At W6 w5.heap.size 27 #[.slice da dn dc, .slice a1 n1 c1, .slice a3 n3 c3, .slice a5 24 c5] := by rw [← hW6]; exact At.new _ _ _
  have g0 := a6.cell 0
  have g1 := a6.cell 1
  have g2 := a6.cell 2
  have g3 := a6.cell 3
  simp at g0 g1 g2 g3
  have FF5 := Lib.hid ((FF4.out.trans f5).trans f6)
  have C6 := Lib.hid (concat4_c w5.heap.size da a1 a3 a5 dn n1 n3 24 dc c1 c3 c5 D F1 F3 FB W6 g0 g1 g2 g3 (HR.out.keep FF5.out) ((I1.out.keep f5 (fun _ _ h => h)).keep f6 (fun _ _ h => h)).rd ((I3.out.keep f5 (fun _ _ h => h)).keep f6 (fun _ _ h => h)).rd (i5.keep f6 (fun _ _ h => h)).rd HD.out HN1.out HN3.out HFT.out (by omega) (by omega))
  have HW6 := Lib.hid hW6
  clear r5 f5 i5 f6 a6 g0 g1 g2 g3 hW6 k0 k1 k2 k3 k4
  go_wp2_with fail
  rw [HW6.out]
  refine (show Calls _ _ _ _ _ from C6.out).mono ?_
  rintro e7 w7 ⟨v7, rfl, r7, f7⟩
  have HZZ : Z = D ++ (F1 ++ (F3 ++ FB)) := by rw [HTT.out, HN1.out, HN3.out, HSM.out, HFB.out]
  have HZ : Hid (NewRow Z w (.returned v7) w7) := Lib.hid ⟨v7, rfl, by rw [HZZ]; exact r7.sub fun k _ hk => hk.elim (fun h => h.elim) fun h => .inr ⟨Nat.le_trans FF5.out.size h.1, h.2⟩, FF5.out.trans f7⟩
  clear r7 f7
  go_wp2_with fail
  go_ret
  exact HZ.out
end Go.Proofs.YtlobnbbndkhcbaaGreatDoor
