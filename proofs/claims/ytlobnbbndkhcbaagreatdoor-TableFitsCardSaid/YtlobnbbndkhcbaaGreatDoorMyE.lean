/-
  Texts of layer 13 on Fit, one behind the other.
-/
import Derived.Test.YtlobnbbndkhcbaaGreatDoorMyC
import Derived.Test.YtlobnbbndkhcbaaGreatDoorMyD
import Derived.Test.YtlobnbbndkhcbaaGreatDoorMg33

/- Layer 13, the program's own: what a measure has behind the first pairs, in the words of the blocks' cuts. -/
namespace Go.Proofs.YtlobnbbndkhcbaaGreatDoor
set_option linter.unusedVariables false
set_option linter.unusedSimpArgs false

theorem subP_snoc (L : List Pr) (o j : Nat) (h : o ≤ j) (hj : j < L.length) : subP L (o, j + 1) = subP L (o, j) ++ [L.getD j pr0] := by
  show (L.drop o).take (j + 1 - o) = (L.drop o).take (j - o) ++ _
  rw [show j + 1 - o = (j - o) + 1 by omega, List.take_add_one, List.getElem?_drop, show o + (j - o) = j by omega, List.getD_eq_getElem?_getD, List.getElem?_eq_getElem hj]
  rfl
theorem subP_nil (L : List Pr) (j : Nat) : subP L (j, j) = [] := by
  show (L.drop j).take (j - j) = []
  rw [Nat.sub_self, List.take_zero]
def stG (s : Nat) (L : List Pr) (j : Nat) : List Pr := subP L ((msN s L j).o, j)
def stM (s e : Nat) (L : List Pr) (j : Nat) : MV := mOf e j (msD s e L j).1 (msD s e L j).2 (stG s L j) (msN s L j).n
theorem stM_step (s e : Nat) (L : List Pr) (j : Nat) (hj : j < L.length) : mAdd s e j (msD s e L j).1 (msD s e L j).2 (stG s L j) (msN s L j).n (L.getD j pr0) = stM s e L (j + 1) := by
  have ho := msN_o s L j
  have hs : msN s L (j + 1) = msS s L j (msN s L j) := rfl
  unfold mAdd stM stG msD
  rw [← subP_snoc L _ j ho hj, hs]
  unfold msS
  by_cases h : s ≤ (msN s L j).n + flN (L.getD j pr0)
  · rw [if_pos h, if_pos h]
    show _ = mOf e (j + 1) (layG e L (_ ++ [_])).1 (layG e L (_ ++ [_])).2 (subP L (j + 1, j + 1)) 0
    rw [layG_app, subP_nil]
    rfl
  · rw [if_neg h, if_neg h]
theorem stM_zero (s e : Nat) (L : List Pr) : stM s e L 0 = ⟨0, 0, 0, 0, ⟨#[]⟩, 0, 0, ⟨#[]⟩, 0⟩ := rfl
theorem stG_len (s : Nat) (L : List Pr) (j : Nat) (hj : j ≤ L.length) : (stG s L j).length = j - (msN s L j).o := subP_len L _ hj
theorem key_subP (L : List Pr) (o j : Nat) (h : o < j) (hj : j ≤ L.length) : keyAt (subP L (o, j)) (subP L (o, j)).length = (L.getD (j - 1) pr0).key := by
  rw [subP_len L (o, j) hj]
  show keyAt _ (j - o) = _
  unfold keyAt
  rw [if_neg (by omega), subP_get L (o, j) (j - o - 1) (by show j - o - 1 < j - o; omega)]
  show (L.getD (o + (j - o - 1)) pr0).key = _
  rw [show o + (j - o - 1) = j - 1 by omega]
theorem stZ (s e b : Nat) (L : List Pr) (j : Nat) (hj : j ≤ L.length) : (if (stG s L j).length = 0 then tabZ (msD s e L j).1 (msD s e L j).2 j b else tabZ ((msD s e L j).1 ++ fblk e (stG s L j)) ((msD s e L j).2 ++ [idxP (keyAt (stG s L j) (stG s L j).length) (msD s e L j).1.length (fblk e (stG s L j)).length]) j b) = msZ s e b L j := by
  have ho := msN_o s L j
  rw [stG_len s L j hj]
  unfold msZ msE msC
  by_cases h : (msN s L j).o < j
  · rw [if_neg (by omega), if_pos h, layG_app]
    unfold tabZ layS stG
    have hk := key_subP L (msN s L j).o j h hj
    rw [subP_len L ((msN s L j).o, j) hj] at hk
    rw [hk]
    rfl
  · rw [if_pos (by omega), if_neg h, List.append_nil]
    rfl
/-! ### What is told so far is enough. -/
theorem msN_take (s : Nat) (L : List Pr) (k : Nat) : ∀ j, j ≤ k → msN s (L.take k) j = msN s L j
  | 0, _ => rfl
  | j + 1, h => by
    show msS s (L.take k) j (msN s (L.take k) j) = msS s L j (msN s L j)
    rw [msN_take s L k j (by omega)]
    unfold msS
    rw [take_getP L k j (by omega)]
theorem msD_take (s e : Nat) (L : List Pr) (k j : Nat) (h : j ≤ k) : msD s e (L.take k) j = msD s e L j := by
  unfold msD
  rw [msN_take s L k j h]
  have hch := chain_in _ _ _ (msN_chain s L j)
  have ho := msN_o s L j
  exact layG_take e L k _ fun c hc => ⟨(hch c hc).2.1, by have := (hch c hc).2.2; omega⟩
theorem subP_take (L : List Pr) (k o j : Nat) (h : j ≤ k) : subP (L.take k) (o, j) = subP L (o, j) := by
  show ((L.take k).drop o).take (j - o) = (L.drop o).take (j - o)
  rw [List.drop_take, List.take_take]
  congr 1
  omega
theorem stG_take (s : Nat) (L : List Pr) (k j : Nat) (h : j ≤ k) : stG s (L.take k) j = stG s L j := by
  unfold stG
  rw [msN_take s L k j h, subP_take L k _ j h]
theorem stM_take (s e : Nat) (L : List Pr) (k j : Nat) (h : j ≤ k) : stM s e (L.take k) j = stM s e L j := by
  unfold stM
  rw [msD_take s e L k j h, stG_take s L k j h, msN_take s L k j h]
theorem msZ_take (s e b : Nat) (L : List Pr) (k j : Nat) (h : j ≤ k) (hk : k ≤ L.length) : msZ s e b (L.take k) j = msZ s e b L j := by
  rw [← stZ s e b (L.take k) j (by rw [List.length_take]; omega), ← stZ s e b L j (by omega), msD_take s e L k j h, stG_take s L k j h]
theorem fitS_take (s e b : Nat) (most : Int) (L : List Pr) (k : Nat) (hk : k ≤ L.length) : ∀ j, j ≤ k → fitS s e b most (L.take k) j = fitS s e b most L j
  | 0, _ => rfl
  | j + 1, h => by
    unfold fitS
    rw [msZ_take s e b L k (j + 1) h hk, fitS_take s e b most L k hk j (by omega)]
theorem take_app1 (l : List Pr) (x : Pr) : (l ++ [x]).take l.length = l := by rw [List.take_append_of_le_length (Nat.le_refl _), List.take_length]
/-- One more pair is told. -/
theorem stM_app (s e : Nat) (l : List Pr) (x : Pr) : mAdd s e l.length (msD s e l l.length).1 (msD s e l l.length).2 (stG s l l.length) (msN s l l.length).n x = stM s e (l ++ [x]) (l.length + 1) := by
  have h := stM_step s e (l ++ [x]) l.length (by rw [List.length_append, List.length_singleton]; omega)
  have h1 := msD_take s e (l ++ [x]) l.length l.length (Nat.le_refl _)
  have h2 := stG_take s (l ++ [x]) l.length l.length (Nat.le_refl _)
  have h3 := msN_take s (l ++ [x]) l.length l.length (Nat.le_refl _)
  rw [take_app1] at h1 h2 h3
  rw [getD_app2] at h
  rw [h1, h2, h3]
  exact h
theorem fitS_app (s e b : Nat) (most : Int) (l : List Pr) (x : Pr) : fitS s e b most (l ++ [x]) (l.length + 1) = if (msZ s e b (l ++ [x]) (l.length + 1) : Int) ≤ most then l.length + 1 else fitS s e b most l l.length := by
  have h := fitS_take s e b most (l ++ [x]) l.length (by rw [List.length_append]; omega) l.length (Nat.le_refl _)
  rw [take_app1] at h
  rw [h]
  rfl
/-! ### Bounds. -/
theorem msN_cs (s : Nat) (L : List Pr) (j : Nat) : (msN s L j).cs.length ≤ j := by
  have h1 := chain_le _ _ _ (msN_chain s L j)
  have h2 := msN_o s L j
  omega
theorem msN_n (s : Nat) (L : List Pr) (hs : s ≤ 65536) : ∀ j, (msN s L j).n ≤ 65536
  | 0 => Nat.zero_le _
  | j + 1 => by
    have ih := msN_n s L hs j
    show (msS s L j (msN s L j)).n ≤ 65536
    unfold msS
    split
    · exact Nat.zero_le _
    · rename_i h
      show (msN s L j).n + flN (L.getD j pr0) ≤ 65536
      omega
theorem st_bounds (s e : Nat) (L : List Pr) (hL : L.length ≤ 17000) (hlow : Low 50000 L) (j : Nat) (hj : j ≤ L.length) :
    (msD s e L j).1.length ≤ 17000 * 1800000000 ∧ (msD s e L j).2.length ≤ 17000 ∧ Low 50000 (msD s e L j).2 ∧ (stG s L j).length ≤ 17000 ∧ Low 50000 (stG s L j) := by
  have hcs := msN_cs s L j
  have hfb := fun c => fblk_sub (e := e) hL hlow c
  have hmul : (msN s L j).cs.length * 1800000000 ≤ 17000 * 1800000000 := Nat.mul_le_mul_right _ (by omega)
  refine ⟨Nat.le_trans (lay_len e L _ fun c _ => hfb c) hmul, by unfold msD; rw [layG_len]; omega, ?_, by rw [stG_len s L j hj]; omega, subP_low hlow _ hj⟩
  unfold msD
  rw [lay_is]
  exact idxs_low e (by omega) hlow hfb _ 0 0 _ (msN_chain s L j) (Nat.le_trans (msN_o s L j) hj) (by omega)
end Go.Proofs.YtlobnbbndkhcbaaGreatDoor

/- Layer 13, the program's own: Fit. -/
namespace Go.Proofs.YtlobnbbndkhcbaaGreatDoor
set_option linter.unusedVariables false
set_option linter.unusedSimpArgs false
open Go.RowKit Go.Shelf
attribute [local go_sem] Oper.semAt_some

theorem fitN_bad (l : List Ent) (o : Opt) (most : Int) (h : ¬ OkO o) : ∀ k, fitN TBp l o most k = 0
  | 0 => rfl
  | k + 1 => by
    have e : buildTE TBp (l.take (k + 1)) o most = 70 := by unfold buildTE; rw [if_pos h]
    unfold fitN
    rw [if_neg (by rw [e]; decide)]
    exact fitN_bad l o most h k
/-- What the rounds of Fit keep. -/
structure FtI (w w1 : World) (o : Opt) (s e b : Nat) (most : Int) (BF BM BO g : Nat) (L : List Pr) (pre : List (Plc L.length)) (W : World) : Prop where
  bf : At W BF 3 #[.int .i64 (fitS s e b most (pl L pre) (pl L pre).length : Int)]
  bm : At W BM 106 #[.pointer (some ⟨g, 0, none⟩)]
  bo : At W BO 3 #[.int .i64 most]
  m : MAt W g o (stM s e (pl L pre) (pl L pre).length)
  fr : Fr No w W
  sz : w1.heap.size ≤ W.heap.size
def FtX (w : World) (s e b : Nat) (most : Int) (BF : Nat) (L : List Pr) (c : Code) (pre : List (Plc L.length)) (W : World) : Prop :=
  c = .exit 0 ∧ At W BF 3 #[.int .i64 (fitS s e b most (pl L pre) (pl L pre).length : Int)] ∧ most < ((msD s e (pl L pre) (pl L pre).length).1.length : Int) ∧ Fr No w W
theorem own_ftI (w w1 : World) (o : Opt) (s e b : Nat) (most : Int) (BF BM BO g : Nat) (L : List Pr) (h : w.heap.size ≤ w1.heap.size) : OwnFrom w1.heap.size (FtI w w1 o s e b most BF BM BO g L) := fun pre W W' row H hg hr =>
  ⟨own_at H.bf hg hr, own_at H.bm hg hr, own_at H.bo hg hr, own_at H.m hg hr, own_fr h H.fr hg hr, Nat.le_trans H.sz hg.size⟩
theorem own_ftX (w w1 : World) (s e b : Nat) (most : Int) (BF : Nat) (L : List Pr) (c : Code) (h : w.heap.size ≤ w1.heap.size) : OwnFrom w1.heap.size (FtX w s e b most BF L c) := fun pre W W' row ⟨h0, h1, h2, h3⟩ hg hr =>
  ⟨h0, own_at h1 hg hr, h2, own_fr h h3 hg hr⟩
set_option maxRecDepth 100000 in
set_option maxHeartbeats 4000000 in
theorem tfit_c (w : World) (S : Nat → Prop) (a : Option Addr) (n cap : Nat) (l : List Ent) (o : Opt) (most : Int) (hn : l.length = n) (hc : n ≤ cap) (hm : cap ≤ maxLen) (hfew : Few l) (hp : Ents w S a l) :
    Calls Tryz.prog 30 #[.slice a n cap, optV o, .int .i64 most] w (PlainRet (.int .i64 (fitN TBp l o most n : Int)) w) := by
  obtain ⟨W, hW⟩ : ∃ W, (w.alloc (.cells #[.int .i64 o.b, .int .i64 o.e, .int .i64 o.n] 24)).alloc (.cells #[.int .i64 most] 3) = W := ⟨_, rfl⟩
  have f0 : Fr No w W := by rw [← hW]; exact ((Fr.refl No w).alloc _).alloc _
  have s0 : W.heap.size = w.heap.size + 2 := by rw [← hW]; simp
  have a0 : At W w.heap.size 24 #[.int .i64 o.b, .int .i64 o.e, .int .i64 o.n] := by rw [← hW]; exact (At.new _ _ _).keep ((Fr.refl No _).alloc _) (fun h => h)
  have a1 : At W (w.heap.size + 1) 3 #[.int .i64 most] := by
    rw [← hW]
    have := At.new (w.alloc (.cells #[.int .i64 o.b, .int .i64 o.e, .int .i64 o.n] 24)) 3 #[.int .i64 most]
    rw [World.size_alloc] at this
    exact this
  have q0 := a0.cell 0
  have q1 := a0.cell 1
  have q2 := a0.cell 2
  simp at q0 q1 q2
  have CK := Lib.hid (fun w => tcheck_c w o)
  have HW := Lib.hid hW
  have HF0 := Lib.hid f0
  have HS0 := Lib.hid s0
  have HA0 := Lib.hid a0
  have HA1 := Lib.hid a1
  rw [← hW] at q0 q1 q2
  unfold optV at CK ⊢
  clear hW f0 s0 a0 a1
  by_cases hok : OkO o
  · rw [decide_eq_true hok] at CK
    have CP := Lib.hid (fun w => pairs_c a cap n w)
    have CN := Lib.hid (fun w => mnew_c w o)
    refine (callsIn_wide (n := 5)).1 ?_
    refine callsIn_of_wp_marks Tryz.func30 rfl trivial ?_ rfl
    simp only [Tryz.ntmps30, List.size_toArray, List.length_cons, List.length_nil, Nat.reduceAdd, Nat.reduceSub, Array.replicate_succ, Array.replicate_zero, List.push_toArray, List.append_toArray, List.nil_append, List.cons_append]
    refine wpIn_wide.2 ?_
    go_wp2_with fail
    rw [HW.out]
    refine (show Calls _ _ _ _ _ from CK.out W).mono ?_
    rintro e1 w1 ⟨rfl, f1⟩
    have HF1 := Lib.hid (HF0.out.trans f1)
    have A1 := Lib.hid (HA0.out.keep f1 (fun h => h))
    have B1 := Lib.hid (HA1.out.keep f1 (fun h => h))
    obtain ⟨w2, hw2⟩ : ∃ w2, w1.alloc (.cells #[.int .i64 0] 3) = w2 := ⟨_, rfl⟩
    have f2 : Fr No w1 w2 := by rw [← hw2]; exact (Fr.refl No w1).alloc _
    have x2 : At w2 w1.heap.size 3 #[.int .i64 0] := by rw [← hw2]; exact At.new _ _ _
    have A2 := Lib.hid (A1.out.keep f2 (fun h => h))
    have B2 := Lib.hid (B1.out.keep f2 (fun h => h))
    have X2 := Lib.hid x2
    have HF2 := Lib.hid (HF1.out.trans f2)
    have q0 := A2.out.cell 0
    have q1 := A2.out.cell 1
    have q2 := A2.out.cell 2
    simp at q0 q1 q2
    rw [← hw2] at q0 q1 q2
    have HW2 := Lib.hid hw2
    have HB := Lib.hid f1.size
    have HB2 : Hid (w2.heap.size = w1.heap.size + 1) := Lib.hid (by rw [← hw2]; simp)
    clear f1 f2 x2 hw2
    go_wp2_with fail
    rw [HW2.out]
    refine (show Calls _ _ _ _ _ from CN.out w2).mono ?_
    rintro e3 w3 ⟨g, rfl, m3, hg3, f3⟩
    have A3 := Lib.hid (A2.out.keep f3 (fun h => h))
    have B3 := Lib.hid (B2.out.keep f3 (fun h => h))
    have X3 := Lib.hid (X2.out.keep f3 (fun h => h))
    have M3 := Lib.hid m3
    have HG3 := Lib.hid hg3
    have HF3 := Lib.hid (HF2.out.trans f3)
    have HSZ3 := Lib.hid f3.size
    have HGL := Lib.hid (show At w3 g _ _ from m3).lt
    clear f3 m3 hg3 CN
    go_wp2_with fail
    obtain ⟨w4, hw4⟩ : ∃ w4, w3.alloc (.cells #[.pointer (some ⟨g, 0, none⟩)] 106) = w4 := ⟨_, rfl⟩
    have f4 : Fr No w3 w4 := by rw [← hw4]; exact (Fr.refl No w3).alloc _
    have x4 : At w4 w3.heap.size 106 #[.pointer (some ⟨g, 0, none⟩)] := by rw [← hw4]; exact At.new _ _ _
    rw [hw4]
    refine (CP.out w4).mono ?_
    rintro e5 w5 ⟨B1, rfl, f5, b1, hB1⟩
    have B5 := Lib.hid ((B3.out.keep f4 (fun h => h)).keep f5 (fun h => h))
    have X5 := Lib.hid ((X3.out.keep f4 (fun h => h)).keep f5 (fun h => h))
    have M5 := Lib.hid (show MAt w5 g o _ from (show At w3 g _ _ from M3.out).keep (f4.trans f5) (fun h => h))
    have Y5 := Lib.hid (x4.keep f5 (fun h => h))
    have HF5 := Lib.hid (HF3.out.trans (f4.trans f5))
    have HSZ5 := Lib.hid (Nat.le_trans f4.size f5.size)
    have HSQ := Lib.hid (tells_pairs (S := fun k => k < w.heap.size) (S0 := fun k => k < w.heap.size ∨ k = B1) (w := w5) (B1 := B1) (a := a) (ca := cap) (l := l) (by have := hfew.len; omega) (by omega) (by rw [hn]; exact b1) ((hp.sub fun k hk _ => hk).keep HF5.out (fun _ _ h => h)) (fun k h => .inl h) (.inr rfl))
    have hBL0 := Lib.hid (cell_block b1)
    have HB1 : Hid (w3.heap.size < B1) := Lib.hid (Nat.lt_of_lt_of_le x4.lt hB1)
    clear f4 f5 x4 hw4 b1
    go_wp2_with fail
    obtain ⟨s, hos⟩ : ∃ s : Nat, o.b = (s : Int) := ⟨o.b.toNat, by have := hok.1; omega⟩
    obtain ⟨e, hoe⟩ : ∃ e : Nat, o.e = (e : Int) := ⟨o.e.toNat, by have := hok.2.2.1; omega⟩
    obtain ⟨b, hon⟩ : ∃ b : Nat, o.n = (b : Int) := ⟨o.n.toNat, by have := hok.2.2.2.2.1; omega⟩
    have hse : s ≤ 65536 ∧ 1 ≤ e ∧ e ≤ 64 ∧ 1 ≤ b ∧ b ≤ 32 := by have := hok; unfold OkO at this; omega
    have HOS := Lib.hid hos
    have HOE := Lib.hid hoe
    have HON := Lib.hid hon
    clear hos hoe hon
    have hw5 : w.heap.size ≤ w5.heap.size := HF5.out.size
    have hBL : B1 < w5.heap.size := hBL0.out
    refine (wpIn_wide (n := 5)).1 ?_
    refine wpIn_rangeFunc_ownH (gf := 65) (lb := #[.pointer (some ⟨B1, 0, none⟩)]) rfl (by omega) rfl trivial (enters_of Tryz.func65 (by kernel_rfl) rfl) HSQ.out
      (fun h k => h.trans k) (fun W k o o' hk h1 h2 _ => Ks.put W k o' (fun h => h.elim (fun h => by have h : k < w.heap.size := h; omega) (fun h => by have h : k = B1 := h; omega))) (Below.refl _ _) (fun _ => rfl)
      (FtI w w5 o s e b most w1.heap.size w3.heap.size (w.heap.size + 1) g (Pairs l)) (FtX w s e b most w1.heap.size (Pairs l)) (own_ftI w w5 o s e b most _ _ _ g (Pairs l) hw5) (fun c => own_ftX w w5 s e b most _ (Pairs l) c hw5)
      ⟨X5.out, Y5.out, B5.out, M5.out, HF5.out, Nat.le_refl _⟩
      (fun z a' W => ∃ O, a' = { tmps := #[.slice a n cap, .agg #[.int .i64 o.b, .int .i64 o.e, .int .i64 o.n], .int .i64 most, undef, .pointer (some ⟨w.heap.size, 0, none⟩), .pointer (some ⟨w.heap.size + 1, 0, none⟩), .int .i64 0, .pointer (some ⟨w1.heap.size, 0, none⟩), .pointer (some ⟨w3.heap.size, 0, none⟩), .pointer (some ⟨O, 0, none⟩), .agg #[.int .i64 o.b, .int .i64 o.e, .int .i64 o.n], .bool true, .bool false, .agg #[.int .i64 o.b, .int .i64 o.e, .int .i64 o.n], .pointer (some ⟨g, 0, none⟩), .slice a n cap, seqP B1, prV ((Pairs l).getD z.val pr0), undef, undef, undef, undef, undef, undef, undef, undef, undef, undef, undef, undef, undef, undef, undef, undef, undef, undef], defers := [] } ∧ At W O 74 #[.string ((Pairs l).getD z.val pr0).key, .string ((Pairs l).getD z.val pr0).val] ∧ w5.heap.size ≤ O)
      (fun z a' => fun _ W W' row ⟨O, h1, h2, h3⟩ hg hr => ⟨O, h1, own_at h2 hg hr, h3⟩) ?assign ?body ?done ?stop
    case assign =>
      rintro y pre z W K H hK
      obtain ⟨x, hx⟩ : ∃ x, (Pairs l).getD z.val pr0 = x := ⟨_, rfl⟩
      rw [hx] at hK ⊢
      obtain ⟨W3, hW3⟩ : ∃ W3, W.alloc (.cells #[.string x.key, .string x.val] 74) = W3 := ⟨_, rfl⟩
      have hf3 : Fr No W W3 := by rw [← hW3]; exact (Fr.refl No W).alloc _
      have hat : At W3 W.heap.size 74 #[.string x.key, .string x.val] := by rw [← hW3]; exact At.new _ _ _
      have HK1 := Lib.hid (fun a' ee => hK a' W3 (by rw [← hW3]; exact (KeepsOthers.alloc _ _).from _) (Ks.of_fr hf3 (fun _ _ h => h)) ⟨H.bf.keep hf3 (fun h => h), H.bm.keep hf3 (fun h => h), H.bo.keep hf3 (fun h => h), (show At W g _ _ from H.m).keep hf3 (fun h => h), H.fr.trans hf3, Nat.le_trans H.sz hf3.size⟩ ⟨W.heap.size, ee, hat, H.sz⟩)
      have HW3 := Lib.hid hW3
      clear hK H hW3 hf3 hat q0 q1 q2
      unfold prV
      gi_wp2
      rw [HW3.out]
      exact HK1.out _ rfl
    case body =>
      rintro y pre z a2 W hy hl H ⟨O, rfl, hat, hO⟩ hpre
      obtain ⟨x, hx⟩ : ∃ x, (Pairs l).getD z.val pr0 = x := ⟨_, rfl⟩
      have hpl : (pl (Pairs l) pre).length < (Pairs l).length := by rw [pl_len]; exact hpre
      have hLn : (Pairs l).length ≤ 17000 := by rw [pairs_len]; have := (rpre_is l).1; have := hfew.len; omega
      have hxs := hfew.low z.val z.2
      have hlow : Low 50000 (pl (Pairs l) pre) := fun i hi => by
        rw [pl_len] at hi
        unfold pl
        rw [List.getD_eq_getElem?_getD, List.getElem?_map, List.getElem?_eq_getElem hi]
        exact hfew.low _ (pre[i]).2
      rw [hx] at hat hxs ⊢
      have hpx : pl (Pairs l) (pre ++ [z]) = pl (Pairs l) pre ++ [x] := by rw [pl_app, hx]
      obtain ⟨h1, h2, h3, h4, h5, h6⟩ := H
      have HPX : Hid (∀ W', At W' w1.heap.size 3 #[.int .i64 (fitS s e b most (pl (Pairs l) pre ++ [x]) ((pl (Pairs l) pre).length + 1) : Int)] → At W' w3.heap.size 106 #[.pointer (some ⟨g, 0, none⟩)] → At W' (w.heap.size + 1) 3 #[.int .i64 most] → MAt W' g o (stM s e (pl (Pairs l) pre ++ [x]) ((pl (Pairs l) pre).length + 1)) → Fr No w W' → w5.heap.size ≤ W'.heap.size → FtI w w5 o s e b most w1.heap.size w3.heap.size (w.heap.size + 1) g (Pairs l) (pre ++ [z]) W') := Lib.hid fun W' k1 k2 k3 k4 k5 k6 => by
        have hl1 : (pl (Pairs l) (pre ++ [z])).length = (pl (Pairs l) pre).length + 1 := by rw [hpx, List.length_append]; rfl
        exact ⟨by rw [hl1, hpx]; exact k1, k2, k3, by rw [hl1, hpx]; exact k4, k5, k6⟩
      have HPN : Hid (∀ W', At W' w1.heap.size 3 #[.int .i64 (fitS s e b most (pl (Pairs l) pre ++ [x]) ((pl (Pairs l) pre).length + 1) : Int)] → most < ((msD s e (pl (Pairs l) pre ++ [x]) ((pl (Pairs l) pre).length + 1)).1.length : Int) → Fr No w W' → FtX w s e b most w1.heap.size (Pairs l) (.exit 0) (pre ++ [z]) W') := Lib.hid fun W' k1 k2 k3 => by
        have hl1 : (pl (Pairs l) (pre ++ [z])).length = (pl (Pairs l) pre).length + 1 := by rw [hpx, List.length_append]; rfl
        exact ⟨rfl, by rw [hl1, hpx]; exact k1, by rw [hl1, hpx]; exact k2, k3⟩
      clear hpx hx
      generalize pl (Pairs l) pre = q at *
      have hlow2 : Low 50000 (q ++ [x]) := fun i hi => by
        rcases Nat.lt_or_ge i q.length with h | h
        · rw [getD_app1 q x h]; exact hlow i h
        · obtain rfl : i = q.length := by rw [List.length_append, List.length_singleton] at hi; omega
          rw [getD_app2]; exact hxs
      have hb1 := st_bounds s e q (by omega) hlow q.length (Nat.le_refl _)
      have hb2 := st_bounds s e (q ++ [x]) (by rw [List.length_append, List.length_singleton]; omega) hlow2 (q.length + 1) (by rw [List.length_append, List.length_singleton]; omega)
      have hGx : Low 100000 (stG s q q.length ++ [x]) := fun i hi => by
        rcases Nat.lt_or_ge i (stG s q q.length).length with h | h
        · rw [getD_app1 _ x h]; have := hb1.2.2.2.2 i h; omega
        · obtain rfl : i = (stG s q q.length).length := by rw [List.length_append, List.length_singleton] at hi; omega
          rw [getD_app2]; omega
      have CA := Lib.hid (madd_c W g o s e q.length _ _ _ _ x (show MAt W g o (mOf e q.length (msD s e q q.length).1 (msD s e q q.length).2 (stG s q q.length) (msN s q q.length).n) from h4) HOS.out HOE.out hse.2.1 hse.2.2.1 hse.1 (by have := msN_n s q hse.1 q.length; omega) (by omega) (by have := hb1.1; omega) (by have := hb1.2.1; omega) (by have := hb1.2.2.2.1; omega) (low_mono hb1.2.2.1 (by omega)) hGx)
      rw [stM_app] at CA
      have CS := Lib.hid (fun (W' : World) (m : MAt W' g o (stM s e (q ++ [x]) (q.length + 1))) => msize_c W' g o e b (q.length + 1) _ _ _ _ (show MAt W' g o (mOf e (q.length + 1) (msD s e (q ++ [x]) (q.length + 1)).1 (msD s e (q ++ [x]) (q.length + 1)).2 (stG s (q ++ [x]) (q.length + 1)) (msN s (q ++ [x]) (q.length + 1)).n) from m) HOE.out HON.out hse.2.1 hse.2.2.1 hse.2.2.2.2 (by omega) (by have := hb2.1; omega) (by have := hb2.2.1; omega) (by have := hb2.2.2.2.1; omega) (low_mono hb2.2.2.1 (by omega)) (low_mono hb2.2.2.2.2 (by omega)))
      rw [stZ s e b (q ++ [x]) (q.length + 1) (by rw [List.length_append]; exact Nat.le_refl _)] at CS
      have c8 := h2.cell 0
      have o0 := hat.cell 0
      have o1 := hat.cell 1
      simp at c8 o0 o1
      have H1 := Lib.hid h1
      have H2 := Lib.hid h2
      have H3 := Lib.hid h3
      have H5 := Lib.hid h5
      have H6 := Lib.hid h6
      clear h1 h2 h3 h4 h5 h6 hat hb1 hb2 hGx hlow hlow2 hxs q0 q1 q2 hpre
      unfold prV
      gi_wp2_with (refine ⟨trivial, ?_⟩; gi_at_call 58; refine (callsIn_wide.2 CA.out).mono ?_; rintro e3 W3 ⟨rfl, m3, f3⟩; have HF3 := Lib.hid f3; have HM3 := Lib.hid m3; clear f3 m3)
      have hgn : w1.heap.size < g ∧ g < w3.heap.size ∧ w.heap.size + 1 < w1.heap.size := by
        have k1 := HGL.out
        have k2 := HG3.out
        have k3 := HB2.out
        have k4 := HB.out
        have k5 := HS0.out
        omega
      have F3b := Lib.hid (H1.out.keep HF3.out (fun h => by have h : w1.heap.size = g := h; omega))
      have M3b := Lib.hid (H2.out.keep HF3.out (fun h => by have h : w3.heap.size = g := h; omega))
      have O3b := Lib.hid (H3.out.keep HF3.out (fun h => by have h : w.heap.size + 1 = g := h; omega))
      have d8 := M3b.out.cell 0
      have d5 := O3b.out.cell 0
      simp at d8 d5
      obtain ⟨zz, hzz⟩ : ∃ zz, msZ s e b (q ++ [x]) (q.length + 1) = zz := ⟨_, rfl⟩
      rw [hzz] at CS
      have HZZ := Lib.hid hzz
      clear hzz
      refine wpIn_region_round (S := fun w' => w'.cell? ⟨w3.heap.size, 0, none⟩ = some (.pointer (some ⟨g, 0, none⟩)) ∧ w'.cell? ⟨w.heap.size + 1, 0, none⟩ = some (.int .i64 most)) (by kernel_rfl) (by kernel_rfl) (fun h => by obtain ⟨_, _, h⟩ := h; exact h) ⟨d8, d5⟩ (fun hSx => ?_)
      refine take_drop (i := 0) (v := ?v0_1) rfl (by kernel_rfl) (by kernel_rfl) (by kernel_rfl) (fun _ _ _ h => h) (Or.inl ⟨by rfl, ?h0_1⟩) hSx ?r0_1
      case h0_1 => (intro wS hSw; obtain ⟨s1, s2⟩ := hSw; go_simp; all_goals (first | (with_reducible rfl) | (rw [if_neg (by omega)])))
      simp only [Act.put, List.setIfInBounds_toArray, List.set_cons_zero, List.set_cons_succ]
      refine take_drop (i := 2) (v := ?v2_1) rfl (by kernel_rfl) (by kernel_rfl) (by kernel_rfl) (fun _ _ _ h => h) (Or.inl ⟨by rfl, ?h2_1⟩) hSx ?r2_1
      case h2_1 => (intro wS hSw; obtain ⟨s1, s2⟩ := hSw; go_simp; all_goals (first | (with_reducible rfl) | (rw [if_neg (by omega)])))
      simp only [Act.put, List.setIfInBounds_toArray, List.set_cons_zero, List.set_cons_succ]
      obtain ⟨W4, hW4⟩ : ∃ W4, W3.drew = W4 := ⟨_, rfl⟩
      rw [hW4] at hSx ⊢
      have f4 : Fr No W3 W4 := by rw [← hW4]; exact (Fr.refl No W3).drew
      have HM4 : Hid (MAt W4 g o (stM s e (q ++ [x]) (q.length + 1))) := Lib.hid ((show At W3 g _ _ from HM3.out).keep f4 (fun h => h))
      refine wpAnyH_ready (rs := [1]) (by kernel_rfl) (by simp) ?_
      refine do_drop (i := 1) rfl (fun K hK => ?_) AllReadyH.nil
      go_simp
      refine (CS.out W4 HM4.out).mono ?_
      rintro e5 W5 ⟨rfl, f5⟩
      have hSx := (show W5.cell? ⟨w3.heap.size, 0, none⟩ = some (.pointer (some ⟨g, 0, none⟩)) ∧ W5.cell? ⟨w.heap.size + 1, 0, none⟩ = some (.int .i64 most) from ⟨f5.cell hSx.1 (fun h => h), f5.cell hSx.2 (fun h => h)⟩)
      have HF5b := Lib.hid (f4.trans f5)
      refine hK.out _ _ hSx ?_
      clear hK K f4 f5 hW4
      try simp only [Act.put, List.setIfInBounds_toArray, List.set_cons_zero, List.set_cons_succ]
      refine take_drop (i := 3) (v := ?v3_1) rfl (by kernel_rfl) (by kernel_rfl) (by kernel_rfl) (fun _ _ _ h => h) (Or.inl ⟨by rfl, ?h3_1⟩) hSx ?r3_1
      case h3_1 => (intro wS hSw; obtain ⟨s1, s2⟩ := hSw; go_simp; all_goals (first | (with_reducible rfl) | (rw [if_neg (by omega)])))
      simp only [Act.put, List.setIfInBounds_toArray, List.set_cons_zero, List.set_cons_succ]
      refine wpAnyH_done (by kernel_rfl) ?_ _
      have F5b := Lib.hid (F3b.out.keep HF5b.out (fun h => h))
      have M5b := Lib.hid (M3b.out.keep HF5b.out (fun h => h))
      have O5b := Lib.hid (O3b.out.keep HF5b.out (fun h => h))
      have HM5 : Hid (MAt W5 g o (stM s e (q ++ [x]) (q.length + 1))) := Lib.hid ((show At W3 g _ _ from HM3.out).keep HF5b.out (fun h => h))
      clear hSx d8 d5
      have HT5 : Hid (Fr (fun k => k = g ∨ k = w1.heap.size) W W5) := Lib.hid ((HF3.out.sub fun k _ h => Or.inl h).then_ HF5b.out fun k _ h => h.elim)
      have FIN : Hid (∀ W6, Fr (One w1.heap.size) W5 W6 → At W6 w1.heap.size 3 #[.int .i64 (fitS s e b most (q ++ [x]) (q.length + 1) : Int)] → KeepsFrom w5.heap.size W W6 ∧ Ks (fun k => k < w.heap.size ∨ k = B1) W W6 ∧ FtI w w5 o s e b most w1.heap.size w3.heap.size (w.heap.size + 1) g (Pairs l) (pre ++ [z]) W6) := Lib.hid fun W6 f6 k1 => by
        have hT := HT5.out.then_ f6 fun k _ h => Or.inr h
        have hz1 := HB1.out
        have hz2 := Y5.out.lt
        refine ⟨⟨hT.size, fun k ob hB hi ho => ?_⟩, Ks.of_fr hT fun k hk h => ?_, HPX.out W6 k1 (M5b.out.keep f6 (fun h => by have h : w3.heap.size = w1.heap.size := h; omega)) (O5b.out.keep f6 (fun h => by have h : w.heap.size + 1 = w1.heap.size := h; omega)) ((show At W5 g _ _ from HM5.out).keep f6 (fun h => by have h : g = w1.heap.size := h; omega)) (H5.out.then_ hT fun k hk h => by rcases h with h | h <;> omega) (Nat.le_trans H6.out hT.size)⟩
        · have hlt : k < W.heap.size := by
            rcases Nat.lt_or_ge k W.heap.size with h | h
            · exact h
            · rw [Array.getElem?_eq_none h] at hi; cases hi
          exact (hT.block k hlt (fun h => by rcases h with h | h <;> omega)).trans hi
        · rcases hk with hk | hk <;> rcases h with h | h <;> omega
      have HFS := Lib.hid (fitS_app s e b most q x)
      rw [HZZ.out] at HFS
      have e8 := M5b.out.cell 0
      have e5 := O5b.out.cell 0
      have e3 : W5.cell? ⟨g, 3, none⟩ = some (.int .i64 ((q.length + 1 : Nat) : Int)) := (show At W5 g 112 _ from HM5.out).cell 3
      have e4 : W5.cell? ⟨g, 4, none⟩ = some (.int .i64 ((msD s e (q ++ [x]) (q.length + 1)).1.length : Int)) := (show At W5 g 112 _ from HM5.out).cell 4
      have ef := F5b.out.cell 0
      have ez := F5b.out.frozen 0
      simp at e8 e5 ef
      obtain ⟨dn, hdn⟩ : ∃ dn, (msD s e (q ++ [x]) (q.length + 1)).1.length = dn := ⟨_, rfl⟩
      rw [hdn] at e4 HPN
      have HKEEP : Hid (∀ W6, FtI w w5 o s e b most w1.heap.size w3.heap.size (w.heap.size + 1) g (Pairs l) (pre ++ [z]) W6 → Fr No w W6) := Lib.hid fun W6 h => h.fr
      clear hdn CA CS
      by_cases hz : (zz : Int) ≤ most
      · have d24 : decide ((zz : Int) ≤ most) = true := decide_eq_true hz
        rw [d24]
        obtain ⟨W6, hW6⟩ : ∃ W6, W5.setCell ⟨w1.heap.size, 0, none⟩ (.int .i64 ((q.length : Int) + 1)) = W6 := ⟨_, rfl⟩
        have f6 : Hid (Fr (One w1.heap.size) W5 W6) := Lib.hid (by rw [← hW6]; exact fr_one W5 w1.heap.size 0 _)
        have k6 : Hid (At W6 w1.heap.size 3 #[.int .i64 (fitS s e b most (q ++ [x]) (q.length + 1) : Int)]) := Lib.hid (by
          rw [← hW6, HFS.out, if_pos hz, Int.natCast_add, Int.natCast_one]
          exact F5b.out.set_ 0 (.int .i64 ((q.length : Int) + 1)))
        have g8 := f6.out.cell e8 (fun h => by have h : w3.heap.size = w1.heap.size := h; omega)
        have g5 := f6.out.cell e5 (fun h => by have h : w.heap.size + 1 = w1.heap.size := h; omega)
        have g4 := f6.out.cell e4 (fun h => by have h : g = w1.heap.size := h; omega)
        have HW6 := Lib.hid hW6
        clear hW6
        gi_wp2
        rw [HW6.out]
        clear e8 e5 e3 e4 ef ez
        refine wpIn_region_round (S := fun w' => w'.cell? ⟨w3.heap.size, 0, none⟩ = some (.pointer (some ⟨g, 0, none⟩)) ∧ w'.cell? ⟨w.heap.size + 1, 0, none⟩ = some (.int .i64 most) ∧ w'.cell? ⟨g, 4, none⟩ = some (.int .i64 (dn : Int))) (by kernel_rfl) (by kernel_rfl) (fun h => by obtain ⟨_, _, h⟩ := h; exact h) ⟨g8, g5, g4⟩ (fun hSx => ?_)
        refine take_drop (i := 0) (v := ?v0_W6) rfl (by kernel_rfl) (by kernel_rfl) (by kernel_rfl) (fun _ _ _ h => h) (Or.inl ⟨by rfl, ?h0_W6⟩) hSx ?r0_W6
        case h0_W6 => (intro wS hSw; obtain ⟨s1, s2, s3⟩ := hSw; go_simp; all_goals (first | (with_reducible rfl) | (rw [if_neg (by omega)])))
        simp only [Act.put, List.setIfInBounds_toArray, List.set_cons_zero, List.set_cons_succ]
        refine take_drop (i := 1) (v := ?v1_W6) rfl (by kernel_rfl) (by kernel_rfl) (by kernel_rfl) (fun _ _ _ h => h) (Or.inl ⟨by rfl, ?h1_W6⟩) hSx ?r1_W6
        case h1_W6 => (intro wS hSw; obtain ⟨s1, s2, s3⟩ := hSw; go_simp; all_goals (first | (with_reducible rfl) | (rw [if_neg (by omega)])))
        simp only [Act.put, List.setIfInBounds_toArray, List.set_cons_zero, List.set_cons_succ]
        refine take_drop (i := 2) (v := ?v2_W6) rfl (by kernel_rfl) (by kernel_rfl) (by kernel_rfl) (fun _ _ _ h => h) (Or.inl ⟨by rfl, ?h2_W6⟩) hSx ?r2_W6
        case h2_W6 => (intro wS hSw; obtain ⟨s1, s2, s3⟩ := hSw; go_simp; all_goals (first | (with_reducible rfl) | (rw [if_neg (by omega)])))
        simp only [Act.put, List.setIfInBounds_toArray, List.set_cons_zero, List.set_cons_succ]
        refine take_drop (i := 3) (v := ?v3_W6) rfl (by kernel_rfl) (by kernel_rfl) (by kernel_rfl) (fun _ _ _ h => h) (Or.inl ⟨by rfl, ?h3_W6⟩) hSx ?r3_W6
        case h3_W6 => (intro wS hSw; obtain ⟨s1, s2, s3⟩ := hSw; go_simp; all_goals (first | (with_reducible rfl) | (rw [if_neg (by omega)])))
        simp only [Act.put, List.setIfInBounds_toArray, List.set_cons_zero, List.set_cons_succ]
        refine take_drop (i := 4) (v := ?v4_W6) rfl (by kernel_rfl) (by kernel_rfl) (by kernel_rfl) (fun _ _ _ h => h) (Or.inl ⟨by rfl, ?h4_W6⟩) hSx ?r4_W6
        case h4_W6 => (intro wS hSw; obtain ⟨s1, s2, s3⟩ := hSw; go_simp; all_goals (first | (with_reducible rfl) | (rw [if_neg (by omega)])))
        simp only [Act.put, List.setIfInBounds_toArray, List.set_cons_zero, List.set_cons_succ]
        refine take_drop (i := 5) (v := ?v5_W6) rfl (by kernel_rfl) (by kernel_rfl) (by kernel_rfl) (fun _ _ _ h => h) (Or.inl ⟨by rfl, ?h5_W6⟩) hSx ?r5_W6
        case h5_W6 => (intro wS hSw; obtain ⟨s1, s2, s3⟩ := hSw; go_simp; all_goals (first | (with_reducible rfl) | (rw [if_neg (by omega)])))
        simp only [Act.put, List.setIfInBounds_toArray, List.set_cons_zero, List.set_cons_succ]
        refine wpAnyH_done (by kernel_rfl) ?_ _
        obtain ⟨W7, hW7⟩ : ∃ W7, W6.drew = W7 := ⟨_, rfl⟩
        rw [hW7]
        have f7 : Fr No W6 W7 := by rw [← hW7]; exact (Fr.refl No W6).drew
        have FW := Lib.hid (FIN.out W7 (f6.out.then_ f7 fun _ _ h => h.elim) (k6.out.keep f7 (fun h => h)))
        clear hSx
        by_cases hb : (most : Int) < (dn : Int)
        · have hd : decide ((dn : Int) > most) = true := decide_eq_true hb
          have FX := Lib.hid (And.intro FW.out.1 (HPN.out W7 (k6.out.keep f7 (fun h => h)) hb (HKEEP.out _ FW.out.2.2)))
          gi_wp2
          exact FX.out
        · have hd : decide ((dn : Int) > most) = false := decide_eq_false hb
          gi_wp2
          exact FW.out
      · have d24 : decide ((zz : Int) ≤ most) = false := decide_eq_false hz
        rw [d24]
        have k6 : Hid (At W5 w1.heap.size 3 #[.int .i64 (fitS s e b most (q ++ [x]) (q.length + 1) : Int)]) := Lib.hid (by
          rw [HFS.out, if_neg hz]
          exact F5b.out)
        have g8 := e8
        have g5 := e5
        have g4 := e4
        gi_wp2
        clear e8 e5 e3 e4 ef ez
        refine wpIn_region_round (S := fun w' => w'.cell? ⟨w3.heap.size, 0, none⟩ = some (.pointer (some ⟨g, 0, none⟩)) ∧ w'.cell? ⟨w.heap.size + 1, 0, none⟩ = some (.int .i64 most) ∧ w'.cell? ⟨g, 4, none⟩ = some (.int .i64 (dn : Int))) (by kernel_rfl) (by kernel_rfl) (fun h => by obtain ⟨_, _, h⟩ := h; exact h) ⟨g8, g5, g4⟩ (fun hSx => ?_)
        refine take_drop (i := 0) (v := ?v0_W5) rfl (by kernel_rfl) (by kernel_rfl) (by kernel_rfl) (fun _ _ _ h => h) (Or.inl ⟨by rfl, ?h0_W5⟩) hSx ?r0_W5
        case h0_W5 => (intro wS hSw; obtain ⟨s1, s2, s3⟩ := hSw; go_simp; all_goals (first | (with_reducible rfl) | (rw [if_neg (by omega)])))
        simp only [Act.put, List.setIfInBounds_toArray, List.set_cons_zero, List.set_cons_succ]
        refine take_drop (i := 1) (v := ?v1_W5) rfl (by kernel_rfl) (by kernel_rfl) (by kernel_rfl) (fun _ _ _ h => h) (Or.inl ⟨by rfl, ?h1_W5⟩) hSx ?r1_W5
        case h1_W5 => (intro wS hSw; obtain ⟨s1, s2, s3⟩ := hSw; go_simp; all_goals (first | (with_reducible rfl) | (rw [if_neg (by omega)])))
        simp only [Act.put, List.setIfInBounds_toArray, List.set_cons_zero, List.set_cons_succ]
        refine take_drop (i := 2) (v := ?v2_W5) rfl (by kernel_rfl) (by kernel_rfl) (by kernel_rfl) (fun _ _ _ h => h) (Or.inl ⟨by rfl, ?h2_W5⟩) hSx ?r2_W5
        case h2_W5 => (intro wS hSw; obtain ⟨s1, s2, s3⟩ := hSw; go_simp; all_goals (first | (with_reducible rfl) | (rw [if_neg (by omega)])))
        simp only [Act.put, List.setIfInBounds_toArray, List.set_cons_zero, List.set_cons_succ]
        refine take_drop (i := 3) (v := ?v3_W5) rfl (by kernel_rfl) (by kernel_rfl) (by kernel_rfl) (fun _ _ _ h => h) (Or.inl ⟨by rfl, ?h3_W5⟩) hSx ?r3_W5
        case h3_W5 => (intro wS hSw; obtain ⟨s1, s2, s3⟩ := hSw; go_simp; all_goals (first | (with_reducible rfl) | (rw [if_neg (by omega)])))
        simp only [Act.put, List.setIfInBounds_toArray, List.set_cons_zero, List.set_cons_succ]
        refine take_drop (i := 4) (v := ?v4_W5) rfl (by kernel_rfl) (by kernel_rfl) (by kernel_rfl) (fun _ _ _ h => h) (Or.inl ⟨by rfl, ?h4_W5⟩) hSx ?r4_W5
        case h4_W5 => (intro wS hSw; obtain ⟨s1, s2, s3⟩ := hSw; go_simp; all_goals (first | (with_reducible rfl) | (rw [if_neg (by omega)])))
        simp only [Act.put, List.setIfInBounds_toArray, List.set_cons_zero, List.set_cons_succ]
        refine take_drop (i := 5) (v := ?v5_W5) rfl (by kernel_rfl) (by kernel_rfl) (by kernel_rfl) (fun _ _ _ h => h) (Or.inl ⟨by rfl, ?h5_W5⟩) hSx ?r5_W5
        case h5_W5 => (intro wS hSw; obtain ⟨s1, s2, s3⟩ := hSw; go_simp; all_goals (first | (with_reducible rfl) | (rw [if_neg (by omega)])))
        simp only [Act.put, List.setIfInBounds_toArray, List.set_cons_zero, List.set_cons_succ]
        refine wpAnyH_done (by kernel_rfl) ?_ _
        obtain ⟨W7, hW7⟩ : ∃ W7, W5.drew = W7 := ⟨_, rfl⟩
        rw [hW7]
        have f7 : Fr No W5 W7 := by rw [← hW7]; exact (Fr.refl No W5).drew
        have FW := Lib.hid (FIN.out W7 ((Fr.refl (One w1.heap.size) W5).then_ f7 fun _ _ h => h.elim) (k6.out.keep f7 (fun h => h)))
        clear hSx
        by_cases hb : (most : Int) < (dn : Int)
        · have hd : decide ((dn : Int) > most) = true := decide_eq_true hb
          have FX := Lib.hid (And.intro FW.out.1 (HPN.out W7 (k6.out.keep f7 (fun h => h)) hb (HKEEP.out _ FW.out.2.2)))
          gi_wp2
          exact FX.out
        · have hd : decide ((dn : Int) > most) = false := decide_eq_false hb
          gi_wp2
          exact FW.out
    case done =>
      rintro D ys W hD rfl H hK
      have HBF := H.bf
      rw [pl_all] at HBF
      have c0 := HBF.cell 0
      simp at c0
      have HE : Hid ((fitS s e b most (Pairs l) (Pairs l).length : Int) = (fitN TBp l o most n : Int)) := Lib.hid (by
        rw [← hn, fitN_end l o most hok, HOS.out, HOE.out, HON.out]
        rfl)
      rw [HE.out] at c0
      have HH := Lib.hid H.fr
      clear q0 q1 q2 HBF H
      gi_wp2
      go_wp2_with fail
      refine ⟨by simp, .inl ⟨_, _, rfl, run_takeDeferred hK, ?_⟩⟩
      have hg := grownBy_putObj' W D (.deferred none)
      have hr : Turns w5.heap.size W (some D) := fun r e => by cases e; exact ⟨hD, _, hK, rfl⟩
      exact ⟨_, results_tmp rfl _ _ _, rfl, own_fr hw5 HH.out hg hr⟩
    case stop =>
      rintro D c pre W hD hpre ⟨rfl, h1, h2, h3⟩ hK
      have c0 := h1.cell 0
      simp at c0
      have HE : Hid ((fitS s e b most (pl (Pairs l) pre) (pl (Pairs l) pre).length : Int) = (fitN TBp l o most n : Int)) := Lib.hid (by
        have hpp := pl_pre hpre
        have hpl : (pl (Pairs l) pre).length ≤ (Pairs l).length := hpp.length_le
        obtain ⟨j, hj⟩ : ∃ j, (pl (Pairs l) pre).length = j := ⟨_, rfl⟩
        have hpt : pl (Pairs l) pre = (Pairs l).take j := by rw [← hj]; exact List.prefix_iff_eq_take.1 hpp
        rw [hj] at h2 hpl ⊢
        rw [hpt] at h2 ⊢
        rw [msD_take s e _ j j (Nat.le_refl _)] at h2
        rw [fitS_take s e b most _ j hpl j (Nat.le_refl _), ← hn, fitN_brk l o most hok j hpl (by rw [HOS.out, HOE.out]; exact h2), HOS.out, HOE.out, HON.out]
        rfl)
      rw [HE.out] at c0
      have HH := Lib.hid h3
      clear q0 q1 q2 h1 h2 h3
      gi_wp2
      go_wp2_with fail
      refine ⟨by simp, .inl ⟨_, _, rfl, run_takeDeferred hK, ?_⟩⟩
      have hg := grownBy_putObj' W D (.deferred none)
      have hr : Turns w5.heap.size W (some D) := fun r e => by cases e; exact ⟨hD, _, hK, rfl⟩
      exact ⟨_, results_tmp rfl _ _ _, rfl, own_fr hw5 HH.out hg hr⟩
  · rw [decide_eq_false hok] at CK
    rw [fitN_bad l o most hok n]
    refine (callsIn_wide (n := 5)).1 ?_
    refine callsIn_of_wp_marks Tryz.func30 rfl trivial ?_ rfl
    simp only [Tryz.ntmps30, List.size_toArray, List.length_cons, List.length_nil, Nat.reduceAdd, Nat.reduceSub, Array.replicate_succ, Array.replicate_zero, List.push_toArray, List.append_toArray, List.nil_append, List.cons_append]
    refine wpIn_wide.2 ?_
    go_wp2_with fail
    rw [HW.out]
    refine (show Calls _ _ _ _ _ from CK.out W).mono ?_
    rintro e1 w1 ⟨rfl, f1⟩
    have HF1 := Lib.hid (HF0.out.trans f1)
    clear f1
    go_wp2_with fail
    exact ⟨_, results_tmp rfl _ _ _, rfl, HF1.out⟩
end Go.Proofs.YtlobnbbndkhcbaaGreatDoor
