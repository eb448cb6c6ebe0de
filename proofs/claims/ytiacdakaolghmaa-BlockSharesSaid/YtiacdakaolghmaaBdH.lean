/-
  Layer 12, the program's own: Build, Open.
-/
import Derived.Test.YtiacdakaolghmaaBdF
import Derived.Test.YtiacdakaolghmaaBdG
namespace Go.Proofs.Ytiacdakaolghmaa
set_option linter.unusedVariables false
open Go.RowKit Go.Shelf

set_option maxRecDepth 20000 in
set_option maxHeartbeats 3200000 in
theorem build_c (w : World) (S : Nat → Prop) (a : Option Addr) (n cap : Nat) (l : List Pr) (e : Int) (hn : l.length = n) (hc : n ≤ cap) (hm : cap ≤ maxLen) (h80 : n ≤ 80) (hlow : Low 300 l) (hp : Prs w S a l) (hw : (Lit.int .i64 e).wf = true) :
    Calls Try.prog 11 #[.slice a n cap, .int .i64 e] w (BuildRet l e w) := by
  have CR := Lib.hid (right_c e w)
  by_cases hr : 1 ≤ e ∧ e ≤ 64
  · obtain ⟨e0, rfl⟩ := Int.eq_ofNat_of_zero_le (show 0 ≤ e by omega)
    have hre : rightE (e0 : Int) = true := by unfold rightE; rw [decide_eq_true hr.1, decide_eq_true hr.2]; rfl
    have hbe : buildE l (e0 : Int) = if ordP l then 0 else 31 := by unfold buildE; rw [if_neg (by omega)]
    have CV := Lib.hid (values_c a cap n w)
    have CP : Hid (∀ (B1 : Nat) (w1 : World), Fr No w w1 → w1.cell? ⟨B1, 0, none⟩ = some (.slice a n cap) → Calls Try.prog 27 #[seqV B1, .int .i64 (e0 : Int)] w1 (PackRet l e0 w1)) := Lib.hid fun B1 w1 f hb => by
      refine pack_c _ _ l e0 w1 (enters_of Try.func40 (by kernel_rfl) rfl) (by omega) (by omega) (fun i hi => ⟨Nat.le_trans (hlow i hi).1 (by omega), Nat.le_trans (hlow i hi).2 (by omega)⟩) (by omega) fun w2 f2 => ?_
      have hlt := cell_block hb
      simp only at hlt
      subst hn
      exact tells_values (S := fun k => k < w.heap.size) (by omega) (f2.cell hb (fun h => h)) (((hp.sub (T := fun k => k < w.heap.size) (fun k hk _ => hk)).keep f (fun _ _ h => h)).keep f2 (fun _ _ h => h)) (fun k hk => Nat.lt_of_lt_of_le hk f.size) (fun k hk => Nat.lt_of_lt_of_le hk (Nat.le_trans f.size f2.size))
    have HBE := Lib.hid hbe
    clear hp hw hr hlow hbe hn
    go_enter Try.func11, Try.ntmps11
    go_wp2_with fail
    refine (show Calls _ _ _ _ _ from CR.out).mono ?_
    rintro e1 w0 ⟨rfl, rfl⟩
    rw [hre]
    go_wp2_with fail
    refine (show Calls _ _ _ _ _ from CV.out).mono ?_
    rintro e1 w1 ⟨B1, rfl, f1, hb1, hz1⟩
    have CPP := Lib.hid (CP.out B1 w1 f1 hb1)
    have HF1 := Lib.hid f1
    clear f1 hb1 hz1 CP
    go_wp2_with fail
    refine (show Calls _ _ _ _ _ from CPP.out).mono ?_
    rintro e2 w2 (⟨ho, x, F, rfl, hbk, hF, f2⟩ | ⟨ho, rfl, f2⟩)
    · have CB := Lib.hid (bbytes_c hbk)
      have HF2 := Lib.hid (HF1.out.trans f2)
      have HO := Lib.hid ho
      clear hbk hF f2 ho CPP
      go_wp2_with fail
      refine (show Calls _ _ _ _ _ from CB.out).mono ?_
      rintro e3 w3 ⟨v, rfl, r3, f3⟩
      have HR : Hid (BuildRet l (e0 : Int) w (.returned (.tuple #[v, .int .i64 0])) w3) := Lib.hid ⟨v, by rw [HBE.out, if_pos HO.out], by
        unfold buildB
        rw [HBE.out, if_pos HO.out, if_pos rfl, Int.toNat_natCast]
        exact .inr (r3.sub fun k _ hk => hk.elim (fun h => h.elim) fun h => .inr ⟨Nat.le_trans HF2.out.size h.1, h.2⟩), HF2.out.trans f3⟩
      clear r3 f3
      go_wp2_with fail
      go_ret2
      exact HR.out
    · have HR : Hid (BuildRet l (e0 : Int) w (.returned (.tuple #[.slice none 0 0, .int .i64 31])) w2) := Lib.hid ⟨_, by rw [HBE.out, if_neg ho], by
        unfold buildB
        rw [HBE.out, if_neg ho, if_neg (by decide)]
        exact .inl ⟨rfl, rfl⟩, HF1.out.trans f2⟩
      clear f2 ho CPP
      go_wp2_with fail
      go_ret2
      exact HR.out
  · have hre : rightE e = false := by
      unfold rightE
      by_cases h : 1 ≤ e
      · rw [decide_eq_true h, decide_eq_false (by omega)]; rfl
      · rw [decide_eq_false h]; rfl
    have hbe : buildE l e = 70 := by unfold buildE; rw [if_pos (by omega)]
    have HR : Hid (BuildRet l e w (.returned (.tuple #[.slice none 0 0, .int .i64 70])) w) := Lib.hid ⟨_, by rw [hbe], by
      unfold buildB
      rw [hbe, if_neg (by decide)]
      exact .inl ⟨rfl, rfl⟩, Fr.refl _ _⟩
    clear hp hw hr hbe
    go_enter Try.func11, Try.ntmps11
    go_wp2_with fail
    refine (show Calls _ _ _ _ _ from CR.out).mono ?_
    rintro e1 w0 ⟨rfl, rfl⟩
    rw [hre]
    go_wp2_with fail
    go_ret2
    exact HR.out
theorem partR_some {b p : List UInt8} {e : Nat} (h : partR b = some (p, e)) : 1 ≤ e ∧ e ≤ 64 ∧ p.length ≤ b.length := by
  unfold partR at h
  split at h
  · split at h
    · rename_i hc
      obtain ⟨rfl, rfl⟩ := Prod.mk.inj (Option.some.inj h)
      exact ⟨hc.1, hc.2.1, by rw [List.length_take]; omega⟩
    · cases h
  · cases h
theorem bs_strOf (p : List UInt8) : bs (strOf p) = p := by unfold bs strOf; simp
/-- What reads as right pairs, was right pairs'. -/
theorem open_same {b p : List UInt8} {e : Nat} (hb : b.length ≤ 100000) (hp : partR b = some (p, e)) {l : List Pr} {e' : Nat} (h1 : 1 ≤ e') (h2 : e' ≤ 64) (hl : blockB e' l = b) : e' = e ∧ readR e 0 emp (strOf p) = l := by
  have h3 := part_block (l := l) h1 h2 (by rw [hl]; exact hb)
  rw [hl, hp] at h3
  obtain ⟨rfl, rfl⟩ := Prod.mk.inj (Option.some.inj h3)
  have h4 := blockB_len e l
  refine ⟨rfl, readR_all (fun i hi => ?_) (bs_strOf _) ?_⟩
  · have h5 := key_len e l i
    have h6 := congrArg List.length (pairsB_rest e l (l.length - (i + 1)) (i + 1))
    rw [show i + 1 + (l.length - (i + 1)) = l.length by omega, List.length_append] at h6
    rw [hl] at h4
    omega
  · rw [← bs_length, bs_strOf]
    rw [hl] at h4
    omega
set_option maxRecDepth 20000 in
set_option maxHeartbeats 3200000 in
theorem open_c (w : World) (a : Option Addr) (n cap : Nat) (b : List UInt8) (hn : b.length = n) (hc : n ≤ cap) (hm : cap ≤ maxLen) (h1 : n ≤ 100000) (hr : Rd w a b) :
    Calls Try.prog 16 #[.slice a n cap] w (OpenRet Bk b w) := by
  have CP := part_c a n cap b w hn hc hm h1 hr
  unfold PartRet at CP
  cases hp : partR b with
  | none =>
    rw [hp] at CP
    simp only at CP
    have CP := Lib.hid CP
    have HR : Hid (∀ w', Fr No w w' → OpenRet Bk b w (.returned (.tuple #[.pointer none, .int .i64 20])) w') := Lib.hid fun w' f => .inr ⟨fun l e g1 g2 _ g3 => by
      have := part_block (l := l) g1 g2 (by rw [g3]; omega)
      rw [g3, hp] at this
      exact absurd this (by simp), rfl, f⟩
    clear hr hp
    go_enter Try.func16, Try.ntmps16
    go_wp2_with fail
    refine (show Calls _ _ _ _ _ from CP.out).mono ?_
    rintro e1 w1 ⟨f1, rfl⟩
    have HRR := Lib.hid (HR.out w1 f1)
    clear f1
    go_wp2_with fail
    go_ret2
    exact HRR.out
  | some q =>
    obtain ⟨p, e⟩ := q
    rw [hp] at CP
    simp only at CP
    have CP := Lib.hid CP
    obtain ⟨he1, he2, hpl⟩ := partR_some hp
    have HSAME := Lib.hid (fun (l : List Pr) (e' : Nat) g1 g2 g3 => open_same (l := l) (e' := e') (by omega) hp g1 g2 g3)
    obtain ⟨P, hP⟩ : ∃ P, strOf p = P := ⟨_, rfl⟩
    have hPs : P.size ≤ 100000 := by rw [← hP, ← bs_length, bs_strOf]; omega
    obtain ⟨hl1, hl2⟩ := readR_low e P
    rw [hP] at HSAME CP
    obtain ⟨L, hL⟩ : ∃ L, readR e 0 emp P = L := ⟨_, rfl⟩
    rw [hL] at hl1 hl2 HSAME
    have CRD := Lib.hid (fun w1 => read_c P (e : Int) w1)
    have CPK : Hid (∀ (B1 B2 : Nat) (w1 : World), w1.cell? ⟨B1, 0, none⟩ = some (.string P) → w1.cell? ⟨B2, 0, none⟩ = some (.int .i64 (e : Int)) → Calls Try.prog 27 #[seqR B1 B2, .int .i64 (e : Int)] w1 (PackRet L e w1)) := Lib.hid fun B1 B2 w1 c1 c2 => by
      refine pack_c _ _ L e w1 (enters_of Try.func44 (by kernel_rfl) rfl) he1 he2 (fun i hi => ⟨Nat.le_trans (hl2 i hi).1 hPs, Nat.le_trans (hl2 i hi).2 hPs⟩) (by omega) fun w2 f2 => ?_
      have hlt := cell_block c2
      simp only at hlt
      rw [← hL]
      exact tells_read (by omega) he1 he2 (f2.cell c1 (fun h => h)) (f2.cell c2 (fun h => h)) hlt
    have HRD := Lib.hid hr
    have HN := Lib.hid hn
    have HNO : Hid ((¬ ordP L ∨ blockB e L ≠ b) → ∀ w', Fr No w w' → OpenRet Bk b w (.returned (.tuple #[.pointer none, .int .i64 20])) w') := Lib.hid fun hno w' f => .inr ⟨fun l e' g1 g2 g4 g3 => by
      obtain ⟨rfl, rfl⟩ := HSAME.out l e' g1 g2 g3
      rcases hno with h | h
      · exact h g4
      · exact h g3, rfl, f⟩
    have HE := Lib.hid (show 1 ≤ e ∧ e ≤ 64 from ⟨he1, he2⟩)
    clear hr hp hn hP hL hl1 hl2 hPs hpl HSAME
    go_enter Try.func16, Try.ntmps16
    go_wp2_with fail
    refine (show Calls _ _ _ _ _ from CP.out).mono ?_
    rintro e1 w1 ⟨f1, rfl⟩
    have HF1 := Lib.hid f1
    have CRD1 := Lib.hid (CRD.out w1)
    clear f1
    go_wp2_with fail
    refine (show Calls _ _ _ _ _ from CRD1.out).mono ?_
    rintro e2 w2 ⟨B1, B2, rfl, f2, c1, c2, _, _⟩
    have HF2 := Lib.hid (HF1.out.trans f2)
    have CPP := Lib.hid (CPK.out B1 B2 w2 c1 c2)
    clear f2 c1 c2
    go_wp2_with fail
    refine (show Calls _ _ _ _ _ from CPP.out).mono ?_
    rintro e3 w3 (⟨ho, x, F, rfl, hbk, hF, f3⟩ | ⟨ho, rfl, f3⟩)
    · have CB := Lib.hid (bbytes_c hbk)
      have HF3 := Lib.hid (HF2.out.trans f3)
      have HO := Lib.hid ho
      have HBK := Lib.hid hbk
      have HFF : Hid (∀ k, F k → w.heap.size ≤ k) := Lib.hid fun k hk => Nat.le_trans HF2.out.size (hF k hk)
      clear hbk hF f3 ho CPP
      go_wp2_with fail
      refine (show Calls _ _ _ _ _ from CB.out).mono ?_
      rintro e4 w4 ⟨v, rfl, r4, f4⟩
      obtain ⟨a4, c4, rfl, k1, k2, in4⟩ := r4.form
      have CE := Lib.hid (equalB_c a4 a (blockB e L).length c4 n cap (blockB e L) b w4 rfl HN.out in4.rd ((((In.of_rd HRD.out).keep HF3.out (fun _ _ h => h)).keep f4 (fun _ _ h => h)).rd))
      have HF4 := Lib.hid (HF3.out.trans f4)
      have HBK4 := Lib.hid (HBK.out.keep f4 (fun _ _ h => h))
      have HYES : Hid (blockB e L = b → OpenRet Bk b w (.returned (.tuple #[.pointer (some ⟨x, 0, none⟩), .int .i64 0])) w4) := Lib.hid fun hb => .inl ⟨L, e, x, F, HE.out.1, HE.out.2, HO.out, hb, rfl, HBK4.out, HFF.out, HF4.out⟩
      have HNN := Lib.hid (fun hb : blockB e L ≠ b => HNO.out (.inr hb) w4 HF4.out)
      generalize (blockB e L).length = bl at *
      clear r4 f4 in4 k1 k2 CB
      go_wp2_with fail
      refine (show Calls _ _ _ _ _ from CE.out).mono ?_
      rintro e5 w5 ⟨rfl, rfl⟩
      by_cases heq : blockB e L = b
      · have hbq : (blockB e L == b) = true := by rw [heq]; exact beq_self_eq_true _
        rw [hbq]
        have HRR := Lib.hid (HYES.out heq)
        clear heq hbq
        go_wp2_with fail
        go_ret2
        exact HRR.out
      · have hbq : (blockB e L == b) = false := by rw [beq_eq_false_iff_ne]; exact heq
        rw [hbq]
        have HRR := Lib.hid (HNN.out heq)
        clear heq hbq
        go_wp2_with fail
        go_ret2
        exact HRR.out
    · have HRR := Lib.hid (HNO.out (.inl ho) w3 (HF2.out.trans f3))
      clear f3 ho CPP
      go_wp2_with fail
      go_ret2
      exact HRR.out
end Go.Proofs.Ytiacdakaolghmaa
