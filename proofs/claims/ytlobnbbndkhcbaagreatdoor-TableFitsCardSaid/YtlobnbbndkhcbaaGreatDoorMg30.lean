/-
  Texts of layer 13 and of what it stands on, one behind the other.
-/
import Derived.Test.YtlobnbbndkhcbaaGreatDoorMg29
import Derived.Test.YtlobnbbndkhcbaaGreatDoorMg18
import Derived.Test.YtlobnbbndkhcbaaGreatDoorMg21
import Derived.Test.YtlobnbbndkhcbaaGreatDoorMg22

/- Layer 12, the program's own: Build, Open. -/
namespace Go.Proofs.YtlobnbbndkhcbaaGreatDoor
set_option linter.unusedVariables false
open Go.RowKit Go.Shelf

set_option maxRecDepth 20000 in
set_option maxHeartbeats 3200000 in
theorem build_c (w : World) (S : Nat → Prop) (a : Option Addr) (n cap : Nat) (l : List Pr) (e : Int) (hn : l.length = n) (hc : n ≤ cap) (hm : cap ≤ maxLen) (h80 : n ≤ 40000) (hlow : Low 100000 l) (hp : Prs w S a l) (hw : (Lit.int .i64 e).wf = true) :
    Calls Tryz.prog 102 #[.slice a n cap, .int .i64 e] w (BuildRet l e w) := by
  have CR := Lib.hid (right_c e w)
  by_cases hr : 1 ≤ e ∧ e ≤ 64
  · obtain ⟨e0, rfl⟩ := Int.eq_ofNat_of_zero_le (show 0 ≤ e by omega)
    have hre : rightE (e0 : Int) = true := by unfold rightE; rw [decide_eq_true hr.1, decide_eq_true hr.2]; rfl
    have hbe : buildE l (e0 : Int) = if ordP l then 0 else 31 := by unfold buildE; rw [if_neg (by omega)]
    have CV := Lib.hid (values_c a cap n w)
    have CP : Hid (∀ (B1 : Nat) (w1 : World), Fr No w w1 → w1.cell? ⟨B1, 0, none⟩ = some (.slice a n cap) → Calls Tryz.prog 126 #[seqV B1, .int .i64 (e0 : Int)] w1 (PackRet l e0 w1)) := Lib.hid fun B1 w1 f hb => by
      refine pack_c _ _ l e0 w1 (enters_of Tryz.func145 (by kernel_rfl) rfl) (by omega) (by omega) hlow (by omega) fun w2 f2 => ?_
      have hlt := cell_block hb
      simp only at hlt
      subst hn
      exact tells_values (S := fun k => k < w.heap.size) (by omega) (f2.cell hb (fun h => h)) (((hp.sub (T := fun k => k < w.heap.size) (fun k hk _ => hk)).keep f (fun _ _ h => h)).keep f2 (fun _ _ h => h)) (fun k hk => Nat.lt_of_lt_of_le hk f.size) (fun k hk => Nat.lt_of_lt_of_le hk (Nat.le_trans f.size f2.size))
    have HBE := Lib.hid hbe
    clear hp hw hr hlow hbe hn
    go_enter Tryz.func102, Tryz.ntmps102
    go_wp2_with fail
    refine (show Calls _ _ _ _ _ from CR.out).mono ?_
    rintro e1 w0 ⟨rfl, rfl⟩
    rw [hre]
    go_wp2_with fail
    refine (show Calls _ _ _ _ _ from CV.out).mono ?_
    rintro e1 w1 ⟨B1, rfl, f1, hb1, hz1⟩
    have CPP := Lib.hid (CP.out B1 w1 f1 hb1)
    have HF1 := Lib.hid f1
    clear f1 hb1 hz1 CP
    go_wp2_with fail
    refine (show Calls _ _ _ _ _ from CPP.out).mono ?_
    rintro e2 w2 (⟨ho, x, F, rfl, hbk, hF, f2⟩ | ⟨ho, rfl, f2⟩)
    · have CB := Lib.hid (bbytes_c hbk)
      have HF2 := Lib.hid (HF1.out.trans f2)
      have HO := Lib.hid ho
      clear hbk hF f2 ho CPP
      go_wp2_with fail
      refine (show Calls _ _ _ _ _ from CB.out).mono ?_
      rintro e3 w3 ⟨v, rfl, r3, f3⟩
      have HR : Hid (BuildRet l (e0 : Int) w (.returned (.tuple #[v, .int .i64 0])) w3) := Lib.hid ⟨v, by rw [HBE.out, if_pos HO.out], by
        unfold buildB
        rw [HBE.out, if_pos HO.out, if_pos rfl, Int.toNat_natCast]
        exact .inr (r3.sub fun k _ hk => hk.elim (fun h => h.elim) fun h => .inr ⟨Nat.le_trans HF2.out.size h.1, h.2⟩), HF2.out.trans f3⟩
      clear r3 f3
      go_wp2_with fail
      go_ret2
      exact HR.out
    · have HR : Hid (BuildRet l (e0 : Int) w (.returned (.tuple #[.slice none 0 0, .int .i64 31])) w2) := Lib.hid ⟨_, by rw [HBE.out, if_neg ho], by
        unfold buildB
        rw [HBE.out, if_neg ho, if_neg (by decide)]
        exact .inl ⟨rfl, rfl⟩, HF1.out.trans f2⟩
      clear f2 ho CPP
      go_wp2_with fail
      go_ret2
      exact HR.out
  · have hre : rightE e = false := by
      unfold rightE
      by_cases h : 1 ≤ e
      · rw [decide_eq_true h, decide_eq_false (by omega)]; rfl
      · rw [decide_eq_false h]; rfl
    have hbe : buildE l e = 70 := by unfold buildE; rw [if_pos (by omega)]
    have HR : Hid (BuildRet l e w (.returned (.tuple #[.slice none 0 0, .int .i64 70])) w) := Lib.hid ⟨_, by rw [hbe], by
      unfold buildB
      rw [hbe, if_neg (by decide)]
      exact .inl ⟨rfl, rfl⟩, Fr.refl _ _⟩
    clear hp hw hr hbe
    go_enter Tryz.func102, Tryz.ntmps102
    go_wp2_with fail
    refine (show Calls _ _ _ _ _ from CR.out).mono ?_
    rintro e1 w0 ⟨rfl, rfl⟩
    rw [hre]
    go_wp2_with fail
    go_ret2
    exact HR.out
theorem partR_some {b p : List UInt8} {e : Nat} (h : partR b = some (p, e)) : 1 ≤ e ∧ e ≤ 64 ∧ p.length ≤ b.length := by
  unfold partR at h
  split at h
  · split at h
    · rename_i hc
      obtain ⟨rfl, rfl⟩ := Prod.mk.inj (Option.some.inj h)
      exact ⟨hc.1, hc.2.1, by rw [List.length_take]; omega⟩
    · cases h
  · cases h
theorem bs_strOf (p : List UInt8) : bs (strOf p) = p := by unfold bs strOf; simp
/-- What reads as right pairs, was right pairs'. -/
theorem open_same {b p : List UInt8} {e : Nat} (hb : b.length ≤ 100000) (hp : partR b = some (p, e)) {l : List Pr} {e' : Nat} (h1 : 1 ≤ e') (h2 : e' ≤ 64) (hl : blockB e' l = b) : e' = e ∧ readR e 0 emp (strOf p) = l := by
  have h3 := part_block (l := l) h1 h2 (by rw [hl]; exact hb)
  rw [hl, hp] at h3
  obtain ⟨rfl, rfl⟩ := Prod.mk.inj (Option.some.inj h3)
  have h4 := blockB_len e l
  refine ⟨rfl, readR_all (fun i hi => ?_) (bs_strOf _) ?_⟩
  · have h5 := key_len e l i
    have h6 := congrArg List.length (pairsB_rest e l (l.length - (i + 1)) (i + 1))
    rw [show i + 1 + (l.length - (i + 1)) = l.length by omega, List.length_append] at h6
    rw [hl] at h4
    omega
  · rw [← bs_length, bs_strOf]
    rw [hl] at h4
    omega
set_option maxRecDepth 20000 in
set_option maxHeartbeats 3200000 in
theorem open_c (w : World) (a : Option Addr) (n cap : Nat) (b : List UInt8) (hn : b.length = n) (hc : n ≤ cap) (hm : cap ≤ maxLen) (h1 : n ≤ 100000) (hr : Rd w a b) :
    Calls Tryz.prog 112 #[.slice a n cap] w (OpenRet Bk b w) := by
  have CP := part_c a n cap b w hn hc hm h1 hr
  unfold PartRet at CP
  cases hp : partR b with
  | none =>
    rw [hp] at CP
    simp only at CP
    have CP := Lib.hid CP
    have HR : Hid (∀ w', Fr No w w' → OpenRet Bk b w (.returned (.tuple #[.pointer none, .int .i64 20])) w') := Lib.hid fun w' f => .inr ⟨fun l e g1 g2 _ g3 => by
      have := part_block (l := l) g1 g2 (by rw [g3]; omega)
      rw [g3, hp] at this
      exact absurd this (by simp), rfl, f⟩
    clear hr hp
    go_enter Tryz.func112, Tryz.ntmps112
    go_wp2_with fail
    refine (show Calls _ _ _ _ _ from CP.out).mono ?_
    rintro e1 w1 ⟨f1, rfl⟩
    have HRR := Lib.hid (HR.out w1 f1)
    clear f1
    go_wp2_with fail
    go_ret2
    exact HRR.out
  | some q =>
    obtain ⟨p, e⟩ := q
    rw [hp] at CP
    simp only at CP
    have CP := Lib.hid CP
    obtain ⟨he1, he2, hpl⟩ := partR_some hp
    have HSAME := Lib.hid (fun (l : List Pr) (e' : Nat) g1 g2 g3 => open_same (l := l) (e' := e') (by omega) hp g1 g2 g3)
    obtain ⟨P, hP⟩ : ∃ P, strOf p = P := ⟨_, rfl⟩
    have hPs : P.size ≤ 100000 := by rw [← hP, ← bs_length, bs_strOf]; omega
    obtain ⟨hl1, hl2⟩ := readR_low e P
    rw [hP] at HSAME CP
    obtain ⟨L, hL⟩ : ∃ L, readR e 0 emp P = L := ⟨_, rfl⟩
    rw [hL] at hl1 hl2 HSAME
    have CRD := Lib.hid (fun w1 => read_c P (e : Int) w1)
    have CPK : Hid (∀ (B1 B2 : Nat) (w1 : World), w1.cell? ⟨B1, 0, none⟩ = some (.string P) → w1.cell? ⟨B2, 0, none⟩ = some (.int .i64 (e : Int)) → Calls Tryz.prog 126 #[seqR B1 B2, .int .i64 (e : Int)] w1 (PackRet L e w1)) := Lib.hid fun B1 B2 w1 c1 c2 => by
      refine pack_c _ _ L e w1 (enters_of Tryz.func149 (by kernel_rfl) rfl) he1 he2 (fun i hi => ⟨Nat.le_trans (hl2 i hi).1 hPs, Nat.le_trans (hl2 i hi).2 hPs⟩) (by omega) fun w2 f2 => ?_
      have hlt := cell_block c2
      simp only at hlt
      rw [← hL]
      exact tells_read (by omega) he1 he2 (f2.cell c1 (fun h => h)) (f2.cell c2 (fun h => h)) hlt
    have HRD := Lib.hid hr
    have HN := Lib.hid hn
    have HNO : Hid ((¬ ordP L ∨ blockB e L ≠ b) → ∀ w', Fr No w w' → OpenRet Bk b w (.returned (.tuple #[.pointer none, .int .i64 20])) w') := Lib.hid fun hno w' f => .inr ⟨fun l e' g1 g2 g4 g3 => by
      obtain ⟨rfl, rfl⟩ := HSAME.out l e' g1 g2 g3
      rcases hno with h | h
      · exact h g4
      · exact h g3, rfl, f⟩
    have HE := Lib.hid (show 1 ≤ e ∧ e ≤ 64 from ⟨he1, he2⟩)
    clear hr hp hn hP hL hl1 hl2 hPs hpl HSAME
    go_enter Tryz.func112, Tryz.ntmps112
    go_wp2_with fail
    refine (show Calls _ _ _ _ _ from CP.out).mono ?_
    rintro e1 w1 ⟨f1, rfl⟩
    have HF1 := Lib.hid f1
    have CRD1 := Lib.hid (CRD.out w1)
    clear f1
    go_wp2_with fail
    refine (show Calls _ _ _ _ _ from CRD1.out).mono ?_
    rintro e2 w2 ⟨B1, B2, rfl, f2, c1, c2, _, _⟩
    have HF2 := Lib.hid (HF1.out.trans f2)
    have CPP := Lib.hid (CPK.out B1 B2 w2 c1 c2)
    clear f2 c1 c2
    go_wp2_with fail
    refine (show Calls _ _ _ _ _ from CPP.out).mono ?_
    rintro e3 w3 (⟨ho, x, F, rfl, hbk, hF, f3⟩ | ⟨ho, rfl, f3⟩)
    · have CB := Lib.hid (bbytes_c hbk)
      have HF3 := Lib.hid (HF2.out.trans f3)
      have HO := Lib.hid ho
      have HBK := Lib.hid hbk
      have HFF : Hid (∀ k, F k → w.heap.size ≤ k) := Lib.hid fun k hk => Nat.le_trans HF2.out.size (hF k hk)
      clear hbk hF f3 ho CPP
      go_wp2_with fail
      refine (show Calls _ _ _ _ _ from CB.out).mono ?_
      rintro e4 w4 ⟨v, rfl, r4, f4⟩
      obtain ⟨a4, c4, rfl, k1, k2, in4⟩ := r4.form
      have CE := Lib.hid (equalB_c a4 a (blockB e L).length c4 n cap (blockB e L) b w4 rfl HN.out in4.rd ((((In.of_rd HRD.out).keep HF3.out (fun _ _ h => h)).keep f4 (fun _ _ h => h)).rd))
      have HF4 := Lib.hid (HF3.out.trans f4)
      have HBK4 := Lib.hid (HBK.out.keep f4 (fun _ _ h => h))
      have HYES : Hid (blockB e L = b → OpenRet Bk b w (.returned (.tuple #[.pointer (some ⟨x, 0, none⟩), .int .i64 0])) w4) := Lib.hid fun hb => .inl ⟨L, e, x, F, HE.out.1, HE.out.2, HO.out, hb, rfl, HBK4.out, HFF.out, HF4.out⟩
      have HNN := Lib.hid (fun hb : blockB e L ≠ b => HNO.out (.inr hb) w4 HF4.out)
      generalize (blockB e L).length = bl at *
      clear r4 f4 in4 k1 k2 CB
      go_wp2_with fail
      refine (show Calls _ _ _ _ _ from CE.out).mono ?_
      rintro e5 w5 ⟨rfl, rfl⟩
      by_cases heq : blockB e L = b
      · have hbq : (blockB e L == b) = true := by rw [heq]; exact beq_self_eq_true _
        rw [hbq]
        have HRR := Lib.hid (HYES.out heq)
        clear heq hbq
        go_wp2_with fail
        go_ret2
        exact HRR.out
      · have hbq : (blockB e L == b) = false := by rw [beq_eq_false_iff_ne]; exact heq
        rw [hbq]
        have HRR := Lib.hid (HNN.out heq)
        clear heq hbq
        go_wp2_with fail
        go_ret2
        exact HRR.out
    · have HRR := Lib.hid (HNO.out (.inl ho) w3 (HF2.out.trans f3))
      clear f3 ho CPP
      go_wp2_with fail
      go_ret2
      exact HRR.out
end Go.Proofs.YtlobnbbndkhcbaaGreatDoor

/- Layer 13, the program's own: within, Check, filled, frameOf, indexPair. -/
namespace Go.Proofs.YtlobnbbndkhcbaaGreatDoor
set_option linter.unusedVariables false
open Go.RowKit

set_option maxHeartbeats 400000 in
theorem within_c (n a b : Int) (w : World) : Calls Tryz.prog 39 #[.int .i64 n, .int .i64 a, .int .i64 b] w fun e w' => e = .returned (.bool (decide (a ≤ n ∧ n ≤ b))) ∧ w = w' := by
  by_cases h1 : a ≤ n
  · have d1 : decide (n ≥ a) = true := decide_eq_true h1
    by_cases h2 : n ≤ b
    · rw [decide_eq_true (⟨h1, h2⟩ : a ≤ n ∧ n ≤ b)]
      go_enter Tryz.func39, Tryz.ntmps39
      go_wp2_with fail
      go_ret
      exact ⟨rfl, rfl⟩
    · rw [decide_eq_false (fun h : a ≤ n ∧ n ≤ b => h2 h.2)]
      go_enter Tryz.func39, Tryz.ntmps39
      go_wp2_with fail
      go_ret
      exact ⟨rfl, rfl⟩
  · have d1 : decide (n ≥ a) = false := decide_eq_false h1
    rw [decide_eq_false (fun h : a ≤ n ∧ n ≤ b => h1 h.1)]
    go_enter Tryz.func39, Tryz.ntmps39
    go_wp2_with fail
    go_ret
    exact ⟨rfl, rfl⟩
set_option maxRecDepth 20000 in
set_option maxHeartbeats 800000 in
theorem tcheck_c (w : World) (o : Opt) : Calls Tryz.prog 14 #[optV o] w (PlainRet (.bool (decide (OkO o))) w) := by
  obtain ⟨W, hW⟩ : ∃ W, w.alloc (.cells #[.int .i64 o.b, .int .i64 o.e, .int .i64 o.n] 24) = W := ⟨_, rfl⟩
  have f0 : Fr No w W := by rw [← hW]; exact (Fr.refl No w).alloc _
  have a0 : At W w.heap.size 24 #[.int .i64 o.b, .int .i64 o.e, .int .i64 o.n] := by rw [← hW]; exact At.new _ _ _
  have c0 := a0.cell 0
  have c1 := a0.cell 1
  have c2 := a0.cell 2
  simp at c0 c1 c2
  have C1 := Lib.hid (within_c o.b 16 65536 W)
  have C2 := Lib.hid (within_c o.e 1 64 W)
  have C3 := Lib.hid (within_c o.n 1 32 W)
  have HW := Lib.hid hW
  have F0 := Lib.hid f0
  clear hW f0 a0
  unfold optV
  by_cases h1 : 16 ≤ o.b ∧ o.b ≤ 65536
  · rw [decide_eq_true h1] at C1
    by_cases h2 : 1 ≤ o.e ∧ o.e ≤ 64
    · rw [decide_eq_true h2] at C2
      have hd : decide (OkO o) = decide (1 ≤ o.n ∧ o.n ≤ 32) := by unfold OkO; apply decide_eq_decide.2; omega
      rw [hd]
      generalize decide (1 ≤ o.n ∧ o.n ≤ 32) = d at *
      go_enter Tryz.func14, Tryz.ntmps14
      go_wp2_with fail
      rw [HW.out]
      refine (show Calls _ _ _ _ _ from C1.out).mono ?_
      rintro e w' ⟨rfl, rfl⟩
      go_wp2_with fail
      refine (show Calls _ _ _ _ _ from C2.out).mono ?_
      rintro e w' ⟨rfl, rfl⟩
      go_wp2_with fail
      refine (show Calls _ _ _ _ _ from C3.out).mono ?_
      rintro e w' ⟨rfl, rfl⟩
      go_wp2_with fail
      go_ret
      exact ⟨rfl, F0.out⟩
    · rw [decide_eq_false h2] at C2
      have hd : decide (OkO o) = false := decide_eq_false fun h => h2 ⟨h.2.2.1, h.2.2.2.1⟩
      rw [hd]
      go_enter Tryz.func14, Tryz.ntmps14
      go_wp2_with fail
      rw [HW.out]
      refine (show Calls _ _ _ _ _ from C1.out).mono ?_
      rintro e w' ⟨rfl, rfl⟩
      go_wp2_with fail
      refine (show Calls _ _ _ _ _ from C2.out).mono ?_
      rintro e w' ⟨rfl, rfl⟩
      go_wp2_with fail
      go_ret
      exact ⟨rfl, F0.out⟩
  · rw [decide_eq_false h1] at C1
    have hd : decide (OkO o) = false := decide_eq_false fun h => h1 ⟨h.1, h.2.1⟩
    rw [hd]
    go_enter Tryz.func14, Tryz.ntmps14
    go_wp2_with fail
    rw [HW.out]
    refine (show Calls _ _ _ _ _ from C1.out).mono ?_
    rintro e w' ⟨rfl, rfl⟩
    go_wp2_with fail
    go_ret
    exact ⟨rfl, F0.out⟩
set_option maxHeartbeats 400000 in
theorem filled_c (p : Pr) (w : World) (h1 : p.key.size ≤ 100000) (h2 : p.val.size ≤ 100000) : Calls Tryz.prog 92 #[prV p] w (PlainRet (.int .i64 (flN p : Int)) w) := by
  have HF : Hid ((flN p : Int) = (p.key.size : Int) + (p.val.size : Int)) := Lib.hid (by unfold flN; omega)
  unfold prV
  go_enter Tryz.func92, Tryz.ntmps92
  go_wp2_with fail
  go_ret
  exact ⟨by rw [HF.out]; rfl, (Fr.refl _ _).alloc _⟩
set_option maxRecDepth 20000 in
set_option maxHeartbeats 800000 in
theorem frameOf_c (w : World) (S : Nat → Prop) (a : Option Addr) (n cap : Nat) (l : List Pr) (e : Nat) (ht : Tab w) (hn : l.length = n) (hc : n ≤ cap) (hm : cap ≤ maxLen) (h4 : n ≤ 40000) (hlow : Low 100000 l) (hp : Prs w S a l) (ho : ordP l) (he : 1 ≤ e) (he2 : e ≤ 64) :
    Calls Tryz.prog 68 #[.slice a n cap, .int .i64 (e : Int)] w (NewRow (fblk e l) w) := by
  have C1 := build_c w S a n cap l (e : Int) hn hc hm h4 hlow hp (by simp [Lit.wf, IntKind.min, IntKind.max, IntKind.signed, IntKind.bits]; omega)
  have hbe : buildE l (e : Int) = 0 := by unfold buildE; rw [if_neg (by omega), if_pos ho]
  have hbb : buildB l (e : Int) = blockB e l := by unfold buildB; rw [if_pos hbe, Int.toNat_natCast]
  unfold BuildRet at C1
  rw [hbe, hbb] at C1
  have C1 := Lib.hid C1
  have HL : Hid ((blockB e l).length ≤ 10000000000) := Lib.hid (by
    rw [blockB_len]
    have q1 := pairsB_len e l 100000 (by omega) hlow l.length (Nat.le_refl _)
    have q2 : l.length * (27 + 2 * 100000) ≤ 40000 * (27 + 2 * 100000) := Nat.mul_le_mul_right _ (by omega)
    have q3 := startsN_len e l l.length
    omega)
  have HT := Lib.hid ht
  unfold fblk
  clear hn hlow hp ho ht hbe hbb
  generalize blockB e l = B at *
  go_enter Tryz.func68, Tryz.ntmps68
  go_wp2_with fail
  refine (show Calls _ _ _ _ _ from C1.out).mono ?_
  rintro e1 w1 ⟨v, rfl, r1, f1⟩
  obtain ⟨a1, c1, rfl, k1, k2, i1⟩ := r1.form
  obtain ⟨n1, hn1⟩ : ∃ n1, B.length = n1 := ⟨_, rfl⟩
  have HL1 := HL.out
  rw [hn1] at HL1 ⊢
  have C2 := Lib.hid (frame_c a1 n1 c1 B w1 hn1 (by omega) i1.rd (HT.out.keep f1 (fun h => h)))
  have F1 := Lib.hid f1
  clear r1 f1 k1 k2 i1 hn1 C1
  go_wp2_with fail
  refine (show Calls _ _ _ _ _ from C2.out).mono ?_
  rintro e2 w2 ⟨v, rfl, r2, f2⟩
  have HR : Hid (NewRow (frameL B) w (.returned v) w2) := Lib.hid ⟨v, rfl, r2.sub fun k _ hk => hk.elim (fun h => h.elim) fun h => .inr ⟨Nat.le_trans F1.out.size h.1, h.2⟩, F1.out.trans f2⟩
  clear r2 f2
  go_wp2_with fail
  go_ret
  exact HR.out
theorem idx_results (tmps : Array Value) (w : World) (g : Nat) (x y : Value) (hp : tmps.getD 6 undef = .pointer (some ⟨g, 0, none⟩)) (hg : At w g 74 #[x, y]) :
    (results Tryz.f69 tmps).run Tryz.prog w = .ok (.agg #[x, y]) w := by
  have hp' : tmps[6]?.getD undef = .pointer (some ⟨g, 0, none⟩) := by simpa using hp
  have hl := run_loadVar_row (P := Tryz.prog) w g 74 74 #[x, y] (0, 0) _ hg Tryz.underlying74 rfl infoPr
  simp [results, Tryz.results69, hp', asAddr, hl]
set_option maxRecDepth 20000 in
set_option maxHeartbeats 1600000 in
theorem idx_c (last : ByteArray) (n m : Nat) (w : World) (hn : n < 9223372036854775808) (hm : m < 9223372036854775808) :
    Calls Tryz.prog 69 #[.string last, .int .i64 (n : Int), .int .i64 (m : Int)] w (PlainRet (prV (idxP last n m)) w) := by
  obtain ⟨W, hW⟩ : ∃ W, (w.alloc (.cells #[.string ⟨#[]⟩, .string ⟨#[]⟩] 74)).alloc (.cells #[.slice none 0 0, .bool false] 155) = W := ⟨_, rfl⟩
  have f0 : Fr No w W := by rw [← hW]; exact ((Fr.refl No w).alloc _).alloc _
  have s0 : W.heap.size = w.heap.size + 2 := by rw [← hW]; simp
  have a0 : At W w.heap.size 74 #[.string ⟨#[]⟩, .string ⟨#[]⟩] := by rw [← hW]; exact (At.new _ _ _).keep ((Fr.refl No _).alloc _) (fun h => h)
  have wr0 : Wr W (w.heap.size + 1) No [] false := by
    have := Wr.new (w.alloc (.cells #[.string ⟨#[]⟩, .string ⟨#[]⟩] 74))
    rw [World.size_alloc] at this
    rw [← hW]
    exact this
  have T0 := Lib.hid (WrT.start wr0)
  have C1 := Lib.hid (wnum_c n W (w.heap.size + 1) No [] false wr0 hn (by simp))
  have HW := Lib.hid hW
  have HA := Lib.hid a0
  have HF0 := Lib.hid f0
  have HS0 := Lib.hid s0
  have hl1 := enc_len9 hn
  have hl2 := enc_len9 hm
  have HID : Hid (idxP last n m = ⟨last, strOf (enc n ++ enc m)⟩) := Lib.hid rfl
  clear hW f0 s0 a0 wr0
  go_enter Tryz.func69, Tryz.ntmps69
  go_wp2_with fail
  rw [HW.out]
  refine (show Calls _ _ _ _ _ from C1.out).mono ?_
  intro e1 w1 hr1
  obtain ⟨rfl, t1, f1⟩ := T0.out.call hr1
  have C2 := Lib.hid (wnum_c m w1 (w.heap.size + 1) _ ([] ++ enc n) false t1.wr hm (by rw [List.nil_append]; omega))
  have T1 := Lib.hid t1
  clear t1 f1 hr1 C1
  go_wp2_with fail
  refine (show Calls _ _ _ _ _ from C2.out).mono ?_
  intro e2 w2 hr2
  obtain ⟨rfl, t2, f2⟩ := T1.out.call hr2
  have C3 := Lib.hid (wbytes_c w2 (w.heap.size + 1) _ (([] ++ enc n) ++ enc m) t2.wr (by rw [List.nil_append, List.length_append]; omega))
  have T2 := Lib.hid t2
  clear t2 f2 hr2 C2
  go_wp2_with fail
  refine (show Calls _ _ _ _ _ from C3.out).mono ?_
  rintro e3 w3 ⟨a3, c3, rfl, g1, g2, g3, g4⟩
  have F2 : Hid (Fr (Two (One (w.heap.size + 1)) No) W w2) := Lib.hid T2.out.fr
  have F3 : Hid (Fr No w w3) := Lib.hid ((HF0.out.then_ T2.out.fr fun k hk h => h.elim (fun h => by have h : k = w.heap.size + 1 := h; omega) (fun h => h.elim)).trans g4)
  have A3 := (HA.out.keep T2.out.fr (fun h => h.elim (fun h => by have h : w.heap.size = w.heap.size + 1 := h; omega) (fun h => h.elim))).keep g4 (fun h => h)
  obtain ⟨_, _, e9, _, _, i3⟩ := g3.form
  obtain ⟨rfl, _, rfl⟩ := Value.slice.inj e9
  obtain ⟨P, hP⟩ : ∃ P, ([] ++ enc n) ++ enc m = P := ⟨_, rfl⟩
  rw [hP] at g1 g3 i3 ⊢
  rw [List.nil_append] at hP
  obtain ⟨n3, hn3⟩ : ∃ n3, P.length = n3 := ⟨_, rfl⟩
  have hcv := conv_rd w3 a3 n3 c3 P hn3 i3.rd
  rw [hn3]
  have HP := Lib.hid hP
  have z0 := A3.frozen 0
  have z1 := (A3.set_ 0 (.string last)).frozen 1
  have d0 := A3.cell 0
  have d1 := (A3.set_ 0 (.string last)).cell 1
  have HA3 := Lib.hid A3
  clear g1 g2 g3 g4 i3 A3 hn3 hP C3 e9
  go_wp2_with fail
  refine bodyPost_ret (idx_results _ _ _ _ _ rfl ((HA3.out.set_ 0 (.string last)).set_ 1 (.string (strOf P)))) rfl ?_
  refine ⟨?_, (F3.out.setCell (fun h => absurd h (Nat.lt_irrefl _)) _).setCell (fun h => absurd h (Nat.lt_irrefl _)) _⟩
  rw [HID.out, ← HP.out]
  rfl
end Go.Proofs.YtlobnbbndkhcbaaGreatDoor

/- Slices of entries and of pairs, cut. -/
namespace Go.Proofs.YtlobnbbndkhcbaaGreatDoor
set_option linter.unusedVariables false
open Go.RowKit

theorem sizePr (w : World) : (sizeOf 74).run Tryz.prog w = .ok 2 w := by kernel_rfl
theorem sizeEn (w : World) : (sizeOf 49).run Tryz.prog w = .ok 4 w := by kernel_rfl
def cutN (z : Nat) (a : Option Addr) (k cap : Nat) : Option Addr := if cap = k then a else a.map (·.add (k * z))
theorem cut_hiN {t e : TypeId} {z : Nat} (ht : Tryz.prog.underlying t = some (.slice e)) (hz : ∀ w, (sizeOf e).run Tryz.prog w = .ok z w) (a : Option Addr) (len cap hi : Nat) (h2 : hi ≤ cap) (w : World) :
    (Instr.slice t (.slice a len cap) none (some (.int .i64 (hi : Int))) none).run Tryz.prog w = .ok (.slice a hi cap) w := by
  have he : Tryz.prog.elem t = e := by simp [Program.elem, ht]
  have ht' : Tryz.prog.underlying t = some (.slice (Tryz.prog.elem t)) := by rw [he]; exact ht
  rw [run_slice_h w t a len cap ht' .i64 hi (by omega) (by omega), he, hz]
  simp only [Result.andThen, sliced, Nat.zero_mul, Nat.sub_zero]
  cases a <;> simp [Addr.add]
theorem cut_bothN {t e : TypeId} {z : Nat} (ht : Tryz.prog.underlying t = some (.slice e)) (hz : ∀ w, (sizeOf e).run Tryz.prog w = .ok z w) (a : Option Addr) (len cap lo hi : Nat) (h1 : lo ≤ hi) (h2 : hi ≤ cap) (w : World) :
    (Instr.slice t (.slice a len cap) (some (.int .i64 (lo : Int))) (some (.int .i64 (hi : Int))) none).run Tryz.prog w = .ok (.slice (cutN z a lo cap) (hi - lo) (cap - lo)) w := by
  have he : Tryz.prog.elem t = e := by simp [Program.elem, ht]
  have ht' : Tryz.prog.underlying t = some (.slice (Tryz.prog.elem t)) := by rw [he]; exact ht
  rw [run_slice_lh w t a len cap ht' .i64 .i64 lo hi (by omega) (by omega) (by omega), he, hz]
  simp [Result.andThen, sliced, cutN]
theorem Prs.cut {w : World} {S : Nat → Prop} {a : Option Addr} {L : List Pr} (h : Prs w S a L) (c : Nat × Nat) (cap : Nat) (hc : c.2 ≤ L.length) (hl : L.length ≤ cap) : Prs w S (cutN 2 a c.1 cap) (subP L c) := fun h0 => by
  rw [subP_len L c hc] at h0
  obtain ⟨b, o, hb, rfl, hx⟩ := h (by omega)
  refine ⟨b, o + c.1 * 2, hb, ?_, fun i hi => ?_⟩
  · unfold cutN
    rw [if_neg (by omega)]
    simp [Addr.add]
  · rw [subP_len L c hc] at hi
    rw [subP_get L c i hi]
    have := hx (c.1 + i) (by omega)
    rw [show o + c.1 * 2 + i * 2 = o + (c.1 + i) * 2 by omega]
    exact this
end Go.Proofs.YtlobnbbndkhcbaaGreatDoor
