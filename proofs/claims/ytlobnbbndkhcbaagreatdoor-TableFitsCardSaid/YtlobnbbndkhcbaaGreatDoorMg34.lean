/-
  Texts of layer 13 and of what it stands on, one behind the other.
-/
import Derived.Test.YtlobnbbndkhcbaaGreatDoorMg32

/- Layer 13, the program's own: the iterator over data blocks' pairs (groups). -/
namespace Go.Proofs.YtlobnbbndkhcbaaGreatDoor
set_option linter.unusedVariables false
open Go.RowKit Go.Shelf
attribute [local go_sem] Oper.semAt_some

theorem ct_more {s : Nat} {L : List Pr} {i o n : Nat} (hi : i < L.length) (h1 : n + flN (L.getD i pr0) < s) (h2 : i + 1 < L.length) : ctG s L (L.length - i) i o n = ctG s L (L.length - (i + 1)) (i + 1) o (n + flN (L.getD i pr0)) := by
  rw [show L.length - i = (L.length - (i + 1)) + 1 by omega]
  show (if _ then _ else _) = _
  rw [if_neg (by omega)]
theorem ct_cut {s : Nat} {L : List Pr} {i o n : Nat} (hi : i < L.length) (h : s ≤ n + flN (L.getD i pr0) ∨ L.length ≤ i + 1) : ctG s L (L.length - i) i o n = (o, i + 1) :: ctG s L (L.length - (i + 1)) (i + 1) (i + 1) 0 := by
  rw [show L.length - i = (L.length - (i + 1)) + 1 by omega]
  show (if _ then _ else _) = _
  rw [if_pos h]
def c00 : Nat × Nat := (0, 0)
theorem drop_cut {C r : List (Nat × Nat)} {j : Nat} {c : Nat × Nat} (h : c :: r = C.drop j) : j < C.length ∧ C.getD j c00 = c ∧ r = C.drop (j + 1) := by
  have hl : j < C.length := by
    have := congrArg List.length h
    rw [List.length_drop, List.length_cons] at this
    omega
  rw [List.drop_eq_getElem_cons hl] at h
  obtain ⟨h2, h3⟩ := List.cons.inj h
  refine ⟨hl, ?_, h3⟩
  rw [List.getD_eq_getElem?_getD, List.getElem?_eq_getElem hl, h2]
  rfl
/-- The value of a data block's pairs. -/
def gV (a : Option Addr) (ca : Nat) (c : Nat × Nat) : Value := .slice (cutN 2 a c.1 ca) (c.2 - c.1) (ca - c.1)
set_option maxRecDepth 100000 in
set_option maxHeartbeats 4000000 in
theorem groups_in (n : Nat) (hn : 1 ≤ n) (y B1 B2 : Nat) (a : Option Addr) (ca s : Nat) (L : List Pr) (S S0 : Nat → Prop) (hm : L.length ≤ 100000) (hca : L.length ≤ ca) (hlow : Low 100000 L) (hs : s ≤ 1000000) (h2 : ∀ k, S k → S0 k) (h3 : S0 B1) (h4 : S0 B2) (C : List (Nat × Nat)) (hC : cuts s L = C) (J Jx : List (Plc C.length) → World → Prop)
    (W : World) (hJ : AbidesFrom W.heap.size J)
    (hY : ∀ pre (z : Plc C.length) W1, J pre W1 → pre.length < C.length → YieldAt Fence.wide (n - 1) Tryz.prog y #[gV a ca (C.getD z.val c00)] W1 fun e W' =>
      (e = .returned (.bool true) ∧ J (pre ++ [z]) W' ∧ Ks S0 W1 W') ∨ (e = .returned (.bool false) ∧ Jx (pre ++ [z]) W'))
    (b1 : W.cell? ⟨B1, 0, none⟩ = some (.slice a L.length ca)) (b2 : W.cell? ⟨B2, 0, none⟩ = some (.int .i64 (s : Int))) (cr : Prs W S a L) (h0 : J [] W) :
    CallsIn Fence.wide n Tryz.prog 101 #[.func (.yield y) #[] #[], .pointer (some ⟨B1, 0, none⟩), .pointer (some ⟨B2, 0, none⟩)] W fun e W' => (∃ v, e = .returned v) ∧
      ((∃ ys, ys = up C.length C.length ∧ J ys W') ∨ (∃ pre, pre <+: up C.length C.length ∧ Jx pre W')) := by
  have HY := Lib.hid hY
  have HCR := Lib.hid cr
  have HS := Lib.hid h2
  have HJ := Lib.hid hJ
  have HB := Lib.hid (fun j (h : j < C.length) => up_step h)
  have HBL := Lib.hid (fun k (h : k ≤ C.length) => up_len C.length k h)
  have HC0 : Hid (ctG s L (L.length - 0) 0 0 0 = C.drop 0) := Lib.hid hC
  have HLOW := Lib.hid hlow
  obtain ⟨m, hm'⟩ : ∃ m, m = L.length := ⟨_, rfl⟩
  rw [← hm'] at b1 hm hca HC0
  have HM := Lib.hid hm'
  have HMORE : Hid (∀ i o n2, i < m → n2 + flN (L.getD i pr0) < s → i + 1 < m → ctG s L (m - i) i o n2 = ctG s L (m - (i + 1)) (i + 1) o (n2 + flN (L.getD i pr0))) := Lib.hid fun i o n2 g1 g2 g3 => by
    rw [hm'] at g1 g3 ⊢
    exact ct_more g1 g2 g3
  have HCUT : Hid (∀ i o n2, i < m → (s ≤ n2 + flN (L.getD i pr0) ∨ m ≤ i + 1) → ctG s L (m - i) i o n2 = (o, i + 1) :: ctG s L (m - (i + 1)) (i + 1) (i + 1) 0) := Lib.hid fun i o n2 g1 g2 => by
    rw [hm'] at g1 g2 ⊢
    exact ct_cut g1 g2
  have HK := Lib.hid (fun (lo hi : Nat) h1 h2 w => cut_bothN (z := 2) Tryz.underlying71 sizePr a m ca lo hi h1 h2 w)
  clear hY cr hm' h2 hJ hC hlow
  refine callsIn_of_wp Tryz.func101 rfl trivial ?_ rfl
  simp only [Tryz.ntmps101, List.size_toArray, List.length_cons, List.length_nil, Nat.reduceAdd, Nat.reduceSub, Array.replicate_succ, Array.replicate_zero, List.push_toArray, List.append_toArray, List.nil_append, List.cons_append]
  gi_wp2
  gi_loopw [4, 5, 10] (fun f q i wr => ∃ k o nn j : Nat, f = .int .i64 o ∧ q = .int .i64 nn ∧ i = .int .i64 k ∧ k ≤ m ∧ o ≤ k ∧ nn ≤ k * 200000 ∧ ctG s L (m - k) k o nn = C.drop j ∧ j ≤ C.length ∧ J (up C.length j) wr ∧ Prs wr S a L ∧ wr.cell? ⟨B1, 0, none⟩ = some (.slice a m ca) ∧ wr.cell? ⟨B2, 0, none⟩ = some (.int .i64 (s : Int)) ∧ W.heap.size ≤ wr.heap.size) (fun _ _ i _ => m - (intOf i).toNat)
  case atStart => exact ⟨0, 0, 0, 0, rfl, rfl, rfl, Nat.zero_le _, Nat.le_refl _, Nat.zero_le _, HC0.out, Nat.zero_le _, h0, HCR.out, b1, b2, Nat.le_refl _⟩
  case round =>
    clear h0 b1 b2
    obtain ⟨k, o, nn, j, rfl, rfl, rfl, hk, hok, hnn, hct, hjl, hj, hp, b1, b2, hsz⟩ := hrel
    have HJK := Lib.hid hj
    have HP := Lib.hid hp
    have HSZ := Lib.hid hsz
    by_cases hlt : k < m
    · obtain ⟨b, ob, hb, ha, hx⟩ := hp (by rw [← HM.out]; omega)
      have hx := hx k (by rw [← HM.out]; exact hlt)
      have hxl := HLOW.out k (by rw [← HM.out]; exact hlt)
      have hmo := HMORE.out k o nn hlt
      have hcu := HCUT.out k o nn hlt
      obtain ⟨x, hxe⟩ : ∃ x, L.getD k pr0 = x := ⟨_, rfl⟩
      rw [hxe] at hx hxl hmo hcu
      obtain ⟨c0, c1⟩ := hx
      obtain ⟨W2, hW2⟩ : ∃ W2, wr.alloc (.cells #[.string x.key, .string x.val] 74) = W2 := ⟨_, rfl⟩
      have f2 : Fr No wr W2 := by rw [← hW2]; exact (Fr.refl No wr).alloc _
      have a2 : At W2 wr.heap.size 74 #[.string x.key, .string x.val] := by rw [← hW2]; exact At.new _ _ _
      have q0 := a2.cell 0
      have q1 := a2.cell 1
      have b12 := f2.cell b1 (fun h => h)
      have b22 := f2.cell b2 (fun h => h)
      have CF := Lib.hid (filled_c x W2 hxl.1 hxl.2)
      have hfl : flN x ≤ 200000 := by unfold flN; omega
      obtain ⟨fl, hfle⟩ : ∃ fl, flN x = fl := ⟨_, rfl⟩
      rw [hfle] at CF hmo hcu hfl
      obtain ⟨n2, hn2⟩ : ∃ n2, nn + fl = n2 := ⟨_, rfl⟩
      rw [hn2] at hmo hcu
      have hni : (nn : Int) + (fl : Int) = (n2 : Int) := by omega
      obtain ⟨k1, hk1⟩ : ∃ k1, k + 1 = k1 := ⟨_, rfl⟩
      rw [hk1] at hmo hcu
      have hki : (k : Int) + 1 = (k1 : Int) := by omega
      have hmm : k * 200000 ≤ m * 200000 := Nat.mul_le_mul_right _ (by omega)
      have hn2b : n2 ≤ k1 * 200000 := by omega
      have hmb : m * 200000 ≤ 100000 * 200000 := Nat.mul_le_mul_right _ hm
      have HF2 := Lib.hid f2
      rw [← hW2] at q0 q1
      have HW2 := Lib.hid hW2
      have hnw : IntKind.i64.wrap (n2 : Int) = (n2 : Int) := IntWalk.i64_in _ (by omega)
      have hkw : IntKind.i64.wrap (k1 : Int) = (k1 : Int) := IntWalk.i64_in _ (by omega)
      subst ha
      by_cases hgo : n2 < s ∧ k1 < m
      · have hct2 := (hmo hgo.1 hgo.2).symm.trans hct
        have HCT := Lib.hid hct2
        have d1 : decide ((n2 : Int) < (s : Int)) = true := decide_eq_true (by omega)
        have d2 : decide ((k : Int) < (m : Int) - 1) = true := decide_eq_true (by omega)
        have HN2 := Lib.hid hn2b
        clear hct hct2 hmo hcu hj hp hsz f2 a2 hW2 hxl hfle hn2 hxe
        unfold prV at CF
        gi_wp2_with (refine ⟨trivial, ?_⟩; gi_at_call 92; rw [HW2.out]; refine (callsIn_wide.2 CF.out).mono ?_; rintro e3 W3 ⟨rfl, f3⟩; have HF3 := Lib.hid (HF2.out.trans f3); have b13 := f3.cell b12 (fun h => h); have b23 := f3.cell b22 (fun h => h); clear f3)
        refine ⟨⟨k1, o, n2, j, rfl, rfl, rfl, by omega, by omega, HN2.out, HCT.out, hjl, abides_fr HJ.out HJK.out HF3.out, HP.out.keep HF3.out (fun _ _ h => h), b13, b23, Nat.le_trans HSZ.out HF3.out.size⟩, ?_⟩
        simp only [intOf, Int.toNat_natCast]
        omega
      · obtain ⟨hj2, hcg, hre⟩ := drop_cut ((hcu (by omega)).symm.trans hct)
        have HRE := Lib.hid hre.symm
        have HST := Lib.hid (HB.out j hj2)
        have HRE : Hid (ctG s L (m - k1) k1 k1 0 = C.drop (j + 1)) := Lib.hid hre
        have HYY : Hid (∀ w3, Fr No wr w3 → YieldAt Fence.wide (n - 1) Tryz.prog y #[gV (some ⟨b, ob, none⟩) ca (o, k1)] w3 fun e W' =>
            (e = .returned (.bool true) ∧ J (up C.length j ++ [⟨j, hj2⟩]) W' ∧ Ks S0 w3 W') ∨ (e = .returned (.bool false) ∧ Jx (up C.length j ++ [⟨j, hj2⟩]) W')) := Lib.hid fun w3 f3 => by
          have q := HY.out (up C.length j) ⟨j, hj2⟩ w3 (abides_fr HJ.out HJK.out f3) (by rw [HBL.out _ (by omega)]; exact hj2)
          rw [show C.getD (⟨j, hj2⟩ : Plc C.length).val c00 = (o, k1) from hcg] at q
          exact q
        have K := HK.out o k1 (by omega) (by omega)
        unfold gV at HYY
        simp only at HYY
        generalize cutN 2 (some ⟨b, ob, none⟩) o ca = ga at HYY K
        obtain ⟨gn, hgn⟩ : ∃ gn, k1 - o = gn := ⟨_, rfl⟩
        obtain ⟨gc, hgc⟩ : ∃ gc, ca - o = gc := ⟨_, rfl⟩
        rw [hgn, hgc] at HYY K
        clear hgn hgc hre hcg
        by_cases hd : n2 < s
        · have d1 : decide ((n2 : Int) < (s : Int)) = true := decide_eq_true (by omega)
          have d2 : decide ((k : Int) < (m : Int) - 1) = false := decide_eq_false (by omega)
          have HN2 := Lib.hid hn2b
          clear hct hmo hcu hj hp hsz f2 a2 hW2 hxl hfle hn2 hxe
          unfold prV at CF
          gi_wp2_with (refine ⟨trivial, ?_⟩; gi_at_call 92; rw [HW2.out]; refine (callsIn_wide.2 CF.out).mono ?_; rintro e3 W3 ⟨rfl, f3⟩; have HF3 := Lib.hid (HF2.out.trans f3); have b13 := f3.cell b12 (fun h => h); have b23 := f3.cell b22 (fun h => h); obtain ⟨fn, tmps, assign, body, hy, hR⟩ := HYY.out W3 (HF2.out.trans f3); clear f3)
          refine hR.mono ?_
          rintro e W6 (⟨rfl, hJ6, hk6⟩ | ⟨rfl, hJx6⟩)
          · have HJ6 := Lib.hid hJ6
            have HK6 := Lib.hid hk6
            have HP3 := Lib.hid (HP.out.keep HF3.out (fun _ _ h => h))
            have HB6 : Hid (W6.cell? ⟨B1, 0, none⟩ = some (.slice (some ⟨b, ob, none⟩) m ca) ∧ W6.cell? ⟨B2, 0, none⟩ = some (.int .i64 (s : Int))) := Lib.hid ⟨hk6.cell b13 h3, hk6.cell b23 h4⟩
            clear hJ6 hk6 hR hy K b12 b22 b13 b23
            gi_wp2
            go_roundw
            case rel =>
              refine ⟨k1, k1, 0, j + 1, rfl, rfl, rfl, by omega, Nat.le_refl _, Nat.zero_le _, HRE.out, by omega, by rw [HST.out]; exact HJ6.out, ?_, HB6.out.1, HB6.out.2, Nat.le_trans HSZ.out (Nat.le_trans HF3.out.size HK6.out.size)⟩
              intro hl
              obtain ⟨b', o', hb', ha', hc'⟩ := HP3.out hl
              exact ⟨b', o', hb', ha', fun i hi => ⟨HK6.out.cell (hc' i hi).c0 (HS.out _ hb'), HK6.out.cell (hc' i hi).c1 (HS.out _ hb')⟩⟩
            case measure =>
              simp only [intOf, Int.toNat_natCast]
              omega
          · have HJ6 := Lib.hid hJx6
            clear hJx6 hR hy K b12 b22 b13 b23
            gi_wp2
            refine bodyPost_ret (results_none rfl _ _ _) rfl ?_
            refine ⟨⟨_, rfl⟩, .inr ⟨_, ?_, HJ6.out⟩⟩
            rw [← HST.out]
            have := up_prefix C.length (j + 1) (C.length - (j + 1))
            rw [show j + 1 + (C.length - (j + 1)) = C.length by omega] at this
            exact this
        · have d1 : decide ((n2 : Int) < (s : Int)) = false := decide_eq_false (by omega)
          have HN2 := Lib.hid hn2b
          clear hct hmo hcu hj hp hsz f2 a2 hW2 hxl hfle hn2 hxe
          unfold prV at CF
          gi_wp2_with (refine ⟨trivial, ?_⟩; gi_at_call 92; rw [HW2.out]; refine (callsIn_wide.2 CF.out).mono ?_; rintro e3 W3 ⟨rfl, f3⟩; have HF3 := Lib.hid (HF2.out.trans f3); have b13 := f3.cell b12 (fun h => h); have b23 := f3.cell b22 (fun h => h); obtain ⟨fn, tmps, assign, body, hy, hR⟩ := HYY.out W3 (HF2.out.trans f3); clear f3)
          refine hR.mono ?_
          rintro e W6 (⟨rfl, hJ6, hk6⟩ | ⟨rfl, hJx6⟩)
          · have HJ6 := Lib.hid hJ6
            have HK6 := Lib.hid hk6
            have HP3 := Lib.hid (HP.out.keep HF3.out (fun _ _ h => h))
            have HB6 : Hid (W6.cell? ⟨B1, 0, none⟩ = some (.slice (some ⟨b, ob, none⟩) m ca) ∧ W6.cell? ⟨B2, 0, none⟩ = some (.int .i64 (s : Int))) := Lib.hid ⟨hk6.cell b13 h3, hk6.cell b23 h4⟩
            clear hJ6 hk6 hR hy K b12 b22 b13 b23
            gi_wp2
            go_roundw
            case rel =>
              refine ⟨k1, k1, 0, j + 1, rfl, rfl, rfl, by omega, Nat.le_refl _, Nat.zero_le _, HRE.out, by omega, by rw [HST.out]; exact HJ6.out, ?_, HB6.out.1, HB6.out.2, Nat.le_trans HSZ.out (Nat.le_trans HF3.out.size HK6.out.size)⟩
              intro hl
              obtain ⟨b', o', hb', ha', hc'⟩ := HP3.out hl
              exact ⟨b', o', hb', ha', fun i hi => ⟨HK6.out.cell (hc' i hi).c0 (HS.out _ hb'), HK6.out.cell (hc' i hi).c1 (HS.out _ hb')⟩⟩
            case measure =>
              simp only [intOf, Int.toNat_natCast]
              omega
          · have HJ6 := Lib.hid hJx6
            clear hJx6 hR hy K b12 b22 b13 b23
            gi_wp2
            refine bodyPost_ret (results_none rfl _ _ _) rfl ?_
            refine ⟨⟨_, rfl⟩, .inr ⟨_, ?_, HJ6.out⟩⟩
            rw [← HST.out]
            have := up_prefix C.length (j + 1) (C.length - (j + 1))
            rw [show j + 1 + (C.length - (j + 1)) = C.length by omega] at this
            exact this
    · have hke : k = m := by omega
      have hje : j = C.length := by
        have h9 := congrArg List.length hct
        rw [hke, Nat.sub_self, List.length_drop] at h9
        have h9 : 0 = C.length - j := h9
        omega
      have HJE := Lib.hid hje
      clear hct hj hp hsz hje
      gi_wp2
      go_end0
      exact ⟨⟨_, rfl⟩, .inl ⟨_, rfl, by have h9 := HJK.out; rw [HJE.out] at h9; exact h9⟩⟩
abbrev seqG (B1 B2 : Nat) : Value := .func (.func 101) #[] #[.pointer (some ⟨B1, 0, none⟩), .pointer (some ⟨B2, 0, none⟩)]
def TellsG (gf : Nat) (lb : Array Value) (C : List (Nat × Nat)) (a : Option Addr) (ca : Nat) (S0 : Nat → Prop) (w : World) : Prop :=
  SeqStopsK Fence.wide 4 Tryz.prog gf lb (fun z : Plc C.length => #[gV a ca (C.getD z.val c00)]) (Ks S0) (fun ys => ys = up C.length C.length) (fun pre => pre <+: up C.length C.length) C.length w
theorem tells_groups {w : World} {S S0 : Nat → Prop} {B1 B2 : Nat} {a : Option Addr} {ca s : Nat} {L : List Pr} (hm : L.length ≤ 100000) (hca : L.length ≤ ca) (hlow : Low 100000 L) (hs : s ≤ 1000000) (b1 : w.cell? ⟨B1, 0, none⟩ = some (.slice a L.length ca)) (b2 : w.cell? ⟨B2, 0, none⟩ = some (.int .i64 (s : Int))) (hp : Prs w S a L) (hS : ∀ k, S k → S0 k) (hB : S0 B1) (hB2 : S0 B2) :
    TellsG 101 #[.pointer (some ⟨B1, 0, none⟩), .pointer (some ⟨B2, 0, none⟩)] (cuts s L) a ca S0 w := fun y J Jx W hW hJ _ hY h0 => by
  have k : ∀ {p : Addr} {v : Value}, w.cell? p = some v → W.cell? p = some v := fun h => (hW.cell (cell_block h)).trans h
  refine groups_in 4 (by omega) y B1 B2 a ca s L S S0 hm hca hlow hs hS hB hB2 _ rfl J Jx W hJ hY (k b1) (k b2) (fun hl => ?_) h0
  obtain ⟨b, o, hb, ha, hc⟩ := hp hl
  exact ⟨b, o, hb, ha, fun i hi => ⟨k (hc i hi).c0, k (hc i hi).c1⟩⟩
/-- What groups hands back. -/
def GroupsRet (a : Option Addr) (n ca : Nat) (s : Int) (w : World) (e : Ending) (w' : World) : Prop := ∃ B1 B2, e = .returned (seqG B1 B2) ∧ Fr No w w' ∧ w'.cell? ⟨B1, 0, none⟩ = some (.slice a n ca) ∧ w'.cell? ⟨B2, 0, none⟩ = some (.int .i64 s) ∧ w.heap.size ≤ B1 ∧ w.heap.size ≤ B2 ∧ B1 < w'.heap.size ∧ B2 < w'.heap.size
set_option maxHeartbeats 800000 in
theorem groups_c (a : Option Addr) (ca n : Nat) (s : Int) (w : World) : Calls Tryz.prog 67 #[.slice a n ca, .int .i64 s] w (GroupsRet a n ca s w) := by
  obtain ⟨w1, hw1⟩ : ∃ w1, (w.alloc (.cells #[.slice a n ca] 71)).alloc (.cells #[.int .i64 s] 3) = w1 := ⟨_, rfl⟩
  have f1 : Fr No w w1 := by rw [← hw1]; exact ((Fr.refl No w).alloc _).alloc _
  have a1 : At w1 w.heap.size 71 #[.slice a n ca] := by rw [← hw1]; exact (At.new _ _ _).keep ((Fr.refl No _).alloc _) (fun h => h)
  have a2 : At w1 (w.heap.size + 1) 3 #[.int .i64 s] := by
    have := At.new (w.alloc (.cells #[.slice a n ca] 71)) 3 #[.int .i64 s]
    rw [World.size_alloc] at this
    rw [← hw1]
    exact this
  have HR : Hid (GroupsRet a n ca s w (.returned (seqG w.heap.size (w.heap.size + 1))) w1) := Lib.hid ⟨_, _, rfl, f1, a1.cell 0, a2.cell 0, Nat.le_refl _, Nat.le_succ _, a1.lt, a2.lt⟩
  have HW := Lib.hid hw1
  clear f1 a1 a2 hw1
  go_enter Tryz.func67, Tryz.ntmps67
  go_wp2_with fail
  go_ret
  rw [HW.out]
  exact HR.out
end Go.Proofs.YtlobnbbndkhcbaaGreatDoor
