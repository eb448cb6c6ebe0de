/-
  Layer 11: the law's fill: a table with batches, and the document's entries.
-/
import Derived.Test.YtggjkpgkmohmdaaMeM
import Derived.Test.YtggjkpgkmohmdaaIkC3
import Derived.Deep.RegionHeld3
namespace Go.Proofs.Ytggjkpgkmohmdaa
set_option linter.unusedVariables false
open Go.RowKit

/-- What fill leaves. -/
def FillOut (D : World → Nat → (Nat → Prop) → Mt → Prop) (m : Mt) (w : World) (e : Ending) (w' : World) : Prop :=
  ∃ t F xa xc, e = .returned (.tuple #[.pointer (some ⟨t, 0, none⟩), .slice xa m.es.length xc, .bool true]) ∧ D w' t F m ∧ (∀ k, F k → w.heap.size ≤ k) ∧ Ents w' (fun k => w.heap.size ≤ k) xa m.es ∧ m.es.length ≤ xc ∧ xc ≤ maxLen ∧ Fr No w w'
theorem EntGood.size {x : Ent} (h : EntGood x) : sizeE x ≤ 10000 := by
  obtain ⟨h1, h2, h3, h4, h5, h6, h7⟩ := h
  obtain ⟨n, hn⟩ : ∃ n : Nat, 1099511627776 - x.q = (n : Int) := ⟨(1099511627776 - x.q).toNat, by omega⟩
  have he := encK_of x.u.data.toList x.q x.k n hn
  have hl := escs_length x.u.data.toList
  rw [ba_len] at hl
  unfold sizeE
  rw [← he]
  simp [six_length]
  omega
theorem sizes_le : ∀ (l : List Ent), (∀ x ∈ l, EntGood x) → (l.map sizeE).sum ≤ l.length * 10000
  | [], _ => by simp
  | x :: l, h => by
    have h1 := (h x (List.mem_cons_self ..)).size
    have h2 := sizes_le l fun y hy => h y (List.mem_cons_of_mem _ hy)
    rw [List.map_cons, List.sum_cons, List.length_cons]
    omega
theorem applyE_cases (m : Mt) (q : Int) (l : List Op10) :
    (allO q l = false ∧ applyE m q l = 100 ∧ applyM m q l = m) ∨ (allO q l = true ∧ q ≤ m.last ∧ applyE m q l = 31 ∧ applyM m q l = m) ∨
    (allO q l = true ∧ ¬ q ≤ m.last ∧ applyE m q l = 0 ∧ applyM m q l = ⟨putAll m.es q l, q + (l.length : Int) - 1⟩) := by
  unfold applyM applyE
  cases ha : allO q l with
  | false => exact .inl ⟨rfl, rfl, rfl⟩
  | true =>
    by_cases hq : q ≤ m.last
    · exact .inr (.inl ⟨rfl, hq, by simp [hq], by simp [hq]⟩)
    · exact .inr (.inr ⟨rfl, hq, by simp [hq], by simp [hq]⟩)
theorem put_step (es : List Ent) (q : Int) (l : List Op10) (j : Nat) (hj : j < l.length) : putAll es q (l.take (j + 1)) = putL (opEnt (q + (j : Int)) (l.getD j op0)) (putAll es q (l.take j)) := by
  rw [List.take_add_one, List.getElem?_eq_getElem hj, getD_op l j hj]
  show putAll es q (l.take j ++ [l[j]]) = _
  rw [putAll_snoc, List.length_take, Nat.min_eq_left (by omega)]
theorem foldM_take {L : List Bt} {k : Nat} (hk : k < L.length) : foldM (L.take (k + 1)) = applyM (foldM (L.take k)) (L.getD k bt0).q (L.getD k bt0).l := by
  rw [List.take_add_one, List.getElem?_eq_getElem hk, getD_bt L k hk]
  exact foldM_snoc _ _
/-- A key in a block of its own. -/
theorem box_refK (w : World) (u : ByteArray) (q k : Int) :
    ∃ W, w.alloc (.cells #[.string u, .int .i64 q, .int .i64 k] 35) = W ∧ Fr No w W ∧ W.cell? ⟨w.heap.size, 0, none⟩ = some (.string u) ∧ W.cell? ⟨w.heap.size, 1, none⟩ = some (.int .i64 q) ∧ W.cell? ⟨w.heap.size, 2, none⟩ = some (.int .i64 k) :=
  ⟨_, rfl, (Fr.refl _ _).alloc _, by rw [cell_of_row _ w.heap.size 0 _ _ (0, 0) (heap_alloc_new w _)]; rfl, by rw [cell_of_row _ w.heap.size 1 _ _ (0, 0) (heap_alloc_new w _)]; rfl, by rw [cell_of_row _ w.heap.size 2 _ _ (0, 0) (heap_alloc_new w _)]; rfl⟩
/-- What holds at the head of each round. -/
structure FillI (D : World → Nat → (Nat → Prop) → Mt → Prop) (w : World) (t : Nat) (m : Mt) (wr : World) (xa : Option Addr) (xc : Nat) : Prop where
  ex : ∃ F, D wr t F m ∧ (∀ k, F k → w.heap.size ≤ k) ∧ Ents wr (fun k => w.heap.size ≤ k ∧ ¬ F k) xa m.es
  cap : m.es.length ≤ xc ∧ xc ≤ maxLen
  fr : Fr No w wr
/-- .. and of each round over a batch's ops. -/
structure InnI (w w5 wq : World) (F' : Nat → Prop) (es : List Ent) (ml q : Int) (l : List Op10) (j : Nat) (ya : Option Addr) (yc mj : Nat) (lj : Int) (Zj : Nat) : Prop where
  len : (putAll es q (l.take j)).length = mj
  last : lj = if j = 0 then ml else q + (j : Int) - 1
  sz : ((putAll es q (l.take j)).map sizeE).sum = Zj
  cap : mj ≤ yc ∧ yc ≤ maxLen
  ents : Ents wq (fun k => w.heap.size ≤ k ∧ ¬ F' k) ya (putAll es q (l.take j))
  good : ∀ y ∈ putAll es q (l.take j), EntGood y
  fr : Fr No w5 wq
set_option maxRecDepth 20000 in
set_option maxHeartbeats 6400000 in
theorem fill_c {D : World → Nat → (Nat → Prop) → Mt → Prop} (H : MemOK D) (a : Option Addr) (n cap : Nat) (L : List Bt) (da : Option Addr) (dn dc : Nat) (dl : List Int) (w : World)
    (hn : L.length = n) (hn30 : n ≤ 30) (hb : Bts w (fun k => k < w.heap.size) a L) (hw : ∀ x ∈ L, BtWf x) (h70 : ∀ x ∈ L, x.l.length ≤ 70) (hd1 : dl.length = dn) (hd2 : dn ≤ dc) (hd3 : dc ≤ maxLen) (hdi : Ints w da dl) :
    Calls Try.prog 10 #[.slice a n cap, .slice da dn dc] w (FillOut D (foldM L) w) := by
  have HH := Lib.hid H
  have HN := Lib.hid hn
  have HB := Lib.hid hb
  have HW := Lib.hid hw
  have H70 := Lib.hid h70
  have HDI := Lib.hid hdi
  have HD1 := Lib.hid hd1
  have HD2 := Lib.hid (show dn ≤ dc ∧ dc ≤ maxLen from ⟨hd2, hd3⟩)
  have HDB : Hid (∀ b o, da = some ⟨b, o, none⟩ → 0 < dn → b < w.heap.size) := Lib.hid fun b o e h => by
    obtain ⟨b', o', e', hc⟩ := hdi (by omega)
    rw [e] at e'
    cases e'
    have h0 : 0 < dl.length := by omega
    exact cell_block (hc 0 _ (List.getElem?_eq_getElem h0)).1
  have C0 := Lib.hid (H.new w)
  clear H hn hb hw h70 hdi hd1 hd2 hd3
  go_enter Try.func10, Try.ntmps10
  go_wp2_with fail
  refine (show Calls _ _ _ _ _ from C0.out).mono ?_
  rintro e w1 ⟨t, F, rfl, hd, hF, hf⟩
  have START : Hid (FillI D w t newMt w1 none 0) := Lib.hid ⟨⟨F, hd, hF, Ents.nil _ _ _⟩, ⟨Nat.le_refl _, by unfold maxLen; omega⟩, hf⟩
  clear hd hF hf C0
  go_wp2_with fail
  go_loopw [8, 9, 10, 22] (fun vx vl vs i wr => ∃ (k : Nat) (xa : Option Addr) (xc : Nat), vx = .slice xa (foldM (L.take k)).es.length xc ∧ vl = .int .i64 (foldM (L.take k)).last ∧ vs = .int .i64 ((sizeMt (foldM (L.take k)) : Nat) : Int) ∧ i = .int .i64 (k : Int) ∧ k ≤ n ∧ FillI D w t (foldM (L.take k)) wr xa xc) (fun _ _ _ i _ => n - (intOf i).toNat)
  case atStart => exact ⟨0, none, 0, rfl, rfl, rfl, rfl, Nat.zero_le _, START.out⟩
  case round =>
    obtain ⟨k, xa, xc, rfl, rfl, rfl, rfl, hk, hI⟩ := hrel
    have HG : Hid (GoodM (foldM (L.take k)) (k * 70)) := Lib.hid (by
      have := foldM_good (L.take k) fun b hb => H70.out b (List.mem_of_mem_take hb)
      rw [List.length_take, Nat.min_eq_left (by rw [HN.out]; exact hk)] at this
      exact this)
    by_cases hlt : k < n
    · have hkl : k < L.length := by rw [HN.out]; exact hlt
      have HNX := Lib.hid (foldM_take hkl)
      obtain ⟨m, hm⟩ : ∃ m, foldM (L.take k) = m := ⟨_, rfl⟩
      obtain ⟨m', hm'⟩ : ∃ m', foldM (L.take (k + 1)) = m' := ⟨_, rfl⟩
      rw [hm] at HG hI HNX ⊢
      rw [hm'] at HNX
      have HM' := Lib.hid hm'
      have HG' : Hid (GoodM m' ((k + 1) * 70)) := Lib.hid (by
        have := foldM_good (L.take (k + 1)) fun b hb => H70.out b (List.mem_of_mem_take hb)
        rw [List.length_take, Nat.min_eq_left hkl, hm'] at this
        exact this)
      obtain ⟨⟨F, hD, hF, hE⟩, ⟨hc1, hc2⟩, hfr⟩ := hI
      have HF := Lib.hid hfr
      obtain ⟨b, o, hbb, rfl, hxs⟩ := HB.out (by omega)
      have hx := hxs k hkl
      have hbw := HW.out _ (getD_memB L k hkl)
      have hx70 := H70.out _ (getD_memB L k hkl)
      obtain ⟨x, hx0⟩ : ∃ x, L.getD k bt0 = x := ⟨_, rfl⟩
      rw [hx0] at hx hbw HNX hx70
      obtain ⟨c0, c1, hops⟩ := hx
      have c0 := hfr.cell c0 (fun h => h)
      have c1 := hfr.cell c1 (fun h => h)
      obtain ⟨hq, hlc, hcm, how⟩ := hbw
      obtain ⟨W3, hW3, hf3, t0, t1⟩ := box_batch wr x.q (.slice x.a x.l.length x.c)
      have HW3 := Lib.hid hW3
      have HF3 := Lib.hid (hfr.trans hf3)
      have HCH := Lib.hid (bcheck_c x.q x.a x.c x.l W3 _ hq hlc hcm (hops.keep HF3.out (fun _ _ h => h)) how)
      have HAP : Hid (∀ w4, Fr No W3 w4 → Calls Try.prog 19 #[.pointer (some ⟨t, 0, none⟩), .agg #[.int .i64 x.q, .slice x.a x.l.length x.c], .slice da dn dc] w4 (MovM D t F (applyM m x.q x.l) (.int .i64 (applyE m x.q x.l)) w4)) := Lib.hid fun w4 f => by
        have f2 := hf3.trans f
        have hlm : m.es.length ≤ 2100 := by have := HG.out.len; omega
        exact HH.out.apply w4 t F m x.q x.a x.l.length x.c x.l (fun k => k < w.heap.size) da dn dc dl (HH.out.keep hD f2 fun _ _ h => h) (by omega) hq rfl hlc hcm (hops.keep (hfr.trans f2) (fun _ _ h => h)) (fun k hk hFk => by have := hF k hFk; omega) how HD1.out HD2.out.1 HD2.out.2 (HDI.out.keep (hfr.trans f2)) (fun b o e h hFb => by have := hF b hFb; have := HDB.out b o e h; omega)
      have HE : Hid (∀ w4, Fr No W3 w4 → Ents w4 (fun k => w.heap.size ≤ k ∧ ¬ F k ∧ k < w4.heap.size) xa m.es) := Lib.hid fun w4 f => (hE.keep (hf3.trans f) fun _ _ h => h).sub fun k h1 h2 => ⟨h2.1, h2.2, h1⟩
      have HFF := Lib.hid hF
      have HLO : Hid (∀ k, F k → k < wr.heap.size) := Lib.hid (HH.out.low hD)
      have HOW := Lib.hid how
      have HOPS := Lib.hid hops
      obtain ⟨T, hT⟩ : ∃ T, wr.heap.size = T := ⟨_, rfl⟩
      rw [hT] at t0 t1 HLO
      have HT := Lib.hid hT
      have HLC := Lib.hid (show x.l.length ≤ x.c ∧ x.c ≤ maxLen from ⟨hlc, hcm⟩)
      have hqw := wf_10 hq
      obtain ⟨nl, hnl⟩ : ∃ nl, x.l.length = nl := ⟨_, rfl⟩
      have HNL := Lib.hid hnl
      have hAC := applyE_cases m x.q x.l
      rw [hnl] at HAP HCH HW3 c1 t1 hx70 HLC hAC
      obtain ⟨mm, hmm⟩ : ∃ mm, m.es.length = mm := ⟨_, rfl⟩
      have HMM := Lib.hid hmm
      obtain ⟨ml, hml⟩ : ∃ ml, m.last = ml := ⟨_, rfl⟩
      have HML := Lib.hid hml
      obtain ⟨Z, hZ⟩ : ∃ Z, sizeMt m = Z := ⟨_, rfl⟩
      have HZ := Lib.hid hZ
      rw [hmm] at hc1 ⊢
      rw [hml] at hAC ⊢
      rw [hZ]
      have HC := Lib.hid (show mm ≤ xc ∧ xc ≤ maxLen from ⟨hc1, hc2⟩)
      have hmlb := HG.out.last
      rw [hml] at hmlb
      clear hm hm' hD hE hfr hx0 hxs hW3 hf3 hT hq how hops hnl hmm hml hZ hF hlc hcm hc1 hc2
      rcases hAC with ⟨ha, hE0, hM0⟩ | ⟨ha, hql, hE0, hM0⟩ | ⟨ha, hql, hE0, hM0⟩
      all_goals rw [ha] at HCH
      all_goals rw [hE0, hM0] at HAP
      all_goals rw [hM0] at HNX
      · rw [show errO false = .int .i64 100 from rfl] at HCH
        clear ha hE0 hM0
        go_wp2_with fail
        rw [HW3.out, HT.out]
        refine (show Calls _ _ _ _ _ from HCH.out).mono ?_
        rintro e w4 ⟨rfl, hf4⟩
        have HF4 := Lib.hid hf4
        have HAP4 := Lib.hid (HAP.out w4 hf4)
        have HE4 := Lib.hid (HE.out w4 hf4)
        have t0 := hf4.cell t0 (fun h => h)
        have t1 := hf4.cell t1 (fun h => h)
        clear hf4 HCH HAP HE
        go_wp2_with fail
        refine (show Calls _ _ _ _ _ from HAP4.out).mono ?_
        rintro e w5 ⟨rfl, F', hD5, hF5, hf5⟩
        have e := HNX.out
        subst e
        have HMM2 := HMM
        have HML2 := HML
        have HZ2 := HZ
        have HC2 := HC
        have HFW5 : Hid (Fr No w w5) := Lib.hid ((HF3.out.trans HF4.out).then_ hf5 fun k hk h => by have := HFF.out k h; omega)
        have HE5 : Hid (Ents w5 (fun k => w.heap.size ≤ k ∧ ¬ F' k) xa m'.es) := Lib.hid ((HE4.out.keep hf5 fun k h1 h2 => h1.2.1 h2).sub fun k _ h => ⟨h.1, fun h2 => (hF5 k h2).elim h.2.1 fun h3 => by have := h.2.2; omega⟩)
        have HD5 := Lib.hid hD5
        have HF5 : Hid (∀ k, F' k → w.heap.size ≤ k) := Lib.hid fun k h => (hF5 k h).elim (HFF.out k) fun h3 => Nat.le_trans (HF3.out.trans HF4.out).size h3
        clear hD5 hF5 hf5 HAP4 HE4
        have HLA : Hid (∀ w6, Fr No w5 w6 → Calls Try.prog 23 #[.pointer (some ⟨t, 0, none⟩)] w6 (Ask (.int .i64 ml) w6)) := Lib.hid fun w6 f => by
          have := HH.out.last w6 t F' m' (HH.out.keep HD5.out f fun _ _ h => h)
          rw [HML2.out] at this
          exact this
        have HLE : Hid (∀ w6, Fr No w5 w6 → Calls Try.prog 21 #[.pointer (some ⟨t, 0, none⟩)] w6 (Ask (.int .i64 (mm : Int)) w6)) := Lib.hid fun w6 f => by
          have := HH.out.len w6 t F' m' (HH.out.keep HD5.out f fun _ _ h => h)
          rw [HMM2.out] at this
          exact this
        have HSI : Hid (∀ w6, Fr No w5 w6 → Calls Try.prog 26 #[.pointer (some ⟨t, 0, none⟩)] w6 (Ask (.int .i64 (Z : Int)) w6)) := Lib.hid fun w6 f => by
          have := HH.out.size w6 t F' m' (HH.out.keep HD5.out f fun _ _ h => h)
          rw [HZ2.out] at this
          exact this
        have HFI : Hid (∀ w6, Fr No w5 w6 → FillI D w t m' w6 xa xc) := Lib.hid fun w6 f => by
          refine ⟨⟨F', HH.out.keep HD5.out f fun _ _ h => h, HF5.out, HE5.out.keep f fun _ _ h => h⟩, ?_, HFW5.out.trans f⟩
          rw [HMM2.out]
          exact HC2.out
        have d1 : (ml != ml) = false := by simp
        have d2 : ((mm : Int) != (mm : Int)) = false := by simp
        have d3 : ((Z : Int) != (Z : Int)) = false := by simp
        go_wp2_with fail
        refine (show Calls _ _ _ _ _ from HLA.out w5 (Fr.refl _ _)).mono ?_
        rintro e w6 ⟨rfl, hf6⟩
        have HF6 := Lib.hid hf6
        clear hf6
        go_wp2_with fail
        refine (show Calls _ _ _ _ _ from HLE.out w6 HF6.out).mono ?_
        rintro e w7 ⟨rfl, hf7⟩
        have HF7 := Lib.hid (HF6.out.trans hf7)
        clear hf7
        go_wp2_with fail
        refine (show Calls _ _ _ _ _ from HSI.out w7 HF7.out).mono ?_
        rintro e w8 ⟨rfl, hf8⟩
        have HF8 := Lib.hid (HFI.out w8 (HF7.out.trans hf8))
        clear hf8
        go_wp2_with fail
        go_roundw
        case rel =>
          refine ⟨k + 1, xa, xc, ?_, ?_, ?_, by simp, by omega, ?_⟩
          · rw [HM'.out, HMM2.out]
          · rw [HM'.out, HML2.out]
          · rw [HM'.out, HZ2.out]
          · rw [HM'.out]
            exact HF8.out
        case measure => simp [intOf]; omega
      · rw [show errO true = .int .i64 0 from rfl] at HCH
        have d0 : decide (x.q ≤ ml) = true := decide_eq_true hql
        clear ha hE0 hM0 hql
        go_wp2_with fail
        rw [HW3.out, HT.out]
        refine (show Calls _ _ _ _ _ from HCH.out).mono ?_
        rintro e w4 ⟨rfl, hf4⟩
        have HF4 := Lib.hid hf4
        have HAP4 := Lib.hid (HAP.out w4 hf4)
        have HE4 := Lib.hid (HE.out w4 hf4)
        have t0 := hf4.cell t0 (fun h => h)
        have t1 := hf4.cell t1 (fun h => h)
        clear hf4 HCH HAP HE
        go_wp2_with fail
        refine (show Calls _ _ _ _ _ from HAP4.out).mono ?_
        rintro e w5 ⟨rfl, F', hD5, hF5, hf5⟩
        have e := HNX.out
        subst e
        have HMM2 := HMM
        have HML2 := HML
        have HZ2 := HZ
        have HC2 := HC
        have HFW5 : Hid (Fr No w w5) := Lib.hid ((HF3.out.trans HF4.out).then_ hf5 fun k hk h => by have := HFF.out k h; omega)
        have HE5 : Hid (Ents w5 (fun k => w.heap.size ≤ k ∧ ¬ F' k) xa m'.es) := Lib.hid ((HE4.out.keep hf5 fun k h1 h2 => h1.2.1 h2).sub fun k _ h => ⟨h.1, fun h2 => (hF5 k h2).elim h.2.1 fun h3 => by have := h.2.2; omega⟩)
        have HD5 := Lib.hid hD5
        have HF5 : Hid (∀ k, F' k → w.heap.size ≤ k) := Lib.hid fun k h => (hF5 k h).elim (HFF.out k) fun h3 => Nat.le_trans (HF3.out.trans HF4.out).size h3
        clear hD5 hF5 hf5 HAP4 HE4
        have HLA : Hid (∀ w6, Fr No w5 w6 → Calls Try.prog 23 #[.pointer (some ⟨t, 0, none⟩)] w6 (Ask (.int .i64 ml) w6)) := Lib.hid fun w6 f => by
          have := HH.out.last w6 t F' m' (HH.out.keep HD5.out f fun _ _ h => h)
          rw [HML2.out] at this
          exact this
        have HLE : Hid (∀ w6, Fr No w5 w6 → Calls Try.prog 21 #[.pointer (some ⟨t, 0, none⟩)] w6 (Ask (.int .i64 (mm : Int)) w6)) := Lib.hid fun w6 f => by
          have := HH.out.len w6 t F' m' (HH.out.keep HD5.out f fun _ _ h => h)
          rw [HMM2.out] at this
          exact this
        have HSI : Hid (∀ w6, Fr No w5 w6 → Calls Try.prog 26 #[.pointer (some ⟨t, 0, none⟩)] w6 (Ask (.int .i64 (Z : Int)) w6)) := Lib.hid fun w6 f => by
          have := HH.out.size w6 t F' m' (HH.out.keep HD5.out f fun _ _ h => h)
          rw [HZ2.out] at this
          exact this
        have HFI : Hid (∀ w6, Fr No w5 w6 → FillI D w t m' w6 xa xc) := Lib.hid fun w6 f => by
          refine ⟨⟨F', HH.out.keep HD5.out f fun _ _ h => h, HF5.out, HE5.out.keep f fun _ _ h => h⟩, ?_, HFW5.out.trans f⟩
          rw [HMM2.out]
          exact HC2.out
        have d1 : (ml != ml) = false := by simp
        have d2 : ((mm : Int) != (mm : Int)) = false := by simp
        have d3 : ((Z : Int) != (Z : Int)) = false := by simp
        go_wp2_with fail
        refine (show Calls _ _ _ _ _ from HLA.out w5 (Fr.refl _ _)).mono ?_
        rintro e w6 ⟨rfl, hf6⟩
        have HF6 := Lib.hid hf6
        clear hf6
        go_wp2_with fail
        refine (show Calls _ _ _ _ _ from HLE.out w6 HF6.out).mono ?_
        rintro e w7 ⟨rfl, hf7⟩
        have HF7 := Lib.hid (HF6.out.trans hf7)
        clear hf7
        go_wp2_with fail
        refine (show Calls _ _ _ _ _ from HSI.out w7 HF7.out).mono ?_
        rintro e w8 ⟨rfl, hf8⟩
        have HF8 := Lib.hid (HFI.out w8 (HF7.out.trans hf8))
        clear hf8
        go_wp2_with fail
        go_roundw
        case rel =>
          refine ⟨k + 1, xa, xc, ?_, ?_, ?_, by simp, by omega, ?_⟩
          · rw [HM'.out, HMM2.out]
          · rw [HM'.out, HML2.out]
          · rw [HM'.out, HZ2.out]
          · rw [HM'.out]
            exact HF8.out
        case measure => simp [intOf]; omega
      · rw [show errO true = .int .i64 0 from rfl] at HCH
        have d0 : decide (x.q ≤ ml) = false := decide_eq_false hql
        have HPT := Lib.hid (allO_parts ha)
        clear ha hE0 hM0 hql
        go_wp2_with fail
        rw [HW3.out, HT.out]
        refine (show Calls _ _ _ _ _ from HCH.out).mono ?_
        rintro e w4 ⟨rfl, hf4⟩
        have HF4 := Lib.hid hf4
        have HAP4 := Lib.hid (HAP.out w4 hf4)
        have HE4 := Lib.hid (HE.out w4 hf4)
        have t0 := hf4.cell t0 (fun h => h)
        have t1 := hf4.cell t1 (fun h => h)
        clear hf4 HCH HAP HE
        go_wp2_with fail
        refine (show Calls _ _ _ _ _ from HAP4.out).mono ?_
        rintro e w5 ⟨rfl, F', hD5, hF5, hf5⟩
        obtain ⟨es, hes⟩ : ∃ es, m.es = es := ⟨_, rfl⟩
        have HGE : Hid (∀ y ∈ es, EntGood y) := Lib.hid (by rw [← hes]; exact HG.out.ent)
        have HMS : Hid (es.length = mm) := Lib.hid (by rw [← hes]; exact HMM.out)
        have HZS : Hid ((es.map sizeE).sum = Z) := Lib.hid (by rw [← hes]; exact HZ.out)
        have HMN : Hid (m' = ⟨putAll es x.q x.l, x.q + (nl : Int) - 1⟩) := Lib.hid (by rw [HNX.out, hes])
        have hm70 : mm ≤ 2100 := by have := HG.out.len; rw [HMM.out] at this; omega
        have HFW5 : Hid (Fr No w w5) := Lib.hid ((HF3.out.trans HF4.out).then_ hf5 fun k hk h => by have := HFF.out k h; omega)
        have HE5 : Hid (Ents w5 (fun k => w.heap.size ≤ k ∧ ¬ F' k) xa es) := Lib.hid (by
          rw [← hes]
          exact (HE4.out.keep hf5 fun k h1 h2 => h1.2.1 h2).sub fun k _ h => ⟨h.1, fun h2 => (hF5 k h2).elim h.2.1 fun h3 => by have := h.2.2; omega⟩)
        have HD5 := Lib.hid (show D w5 t F' m' by rw [HNX.out]; exact hD5)
        have HF5 : Hid (∀ k, F' k → w.heap.size ≤ k) := Lib.hid fun k h => (hF5 k h).elim (HFF.out k) fun h3 => Nat.le_trans (HF3.out.trans HF4.out).size h3
        have t0 := hf5.cell t0 (fun h => by have := HLO.out T h; omega)
        have t1 := hf5.cell t1 (fun h => by have := HLO.out T h; omega)
        have I0 : Hid (InnI w w5 w5 F' es ml x.q x.l 0 xa xc mm ml Z) := Lib.hid ⟨HMS.out, rfl, HZS.out, HC.out, HE5.out, HGE.out, Fr.refl _ _⟩
        have hq0 := HPT.out.2.2.1
        have hq1 := HPT.out.2.2.2.1
        have hq2 := HPT.out.1
        rw [HNL.out] at hq1 hq2
        clear hD5 hF5 hf5 HAP4 HE4 hes c0 c1 d0
        go_wp2_with fail
        go_loopw [8, 9, 10, 46] (fun vx vl vs i wq => ∃ (j mj Zj yc : Nat) (lj : Int) (ya : Option Addr), vx = .slice ya mj yc ∧ vl = .int .i64 lj ∧ vs = .int .i64 (Zj : Int) ∧ i = .int .i64 (j : Int) ∧ j ≤ nl ∧ InnI w w5 wq F' es ml x.q x.l j ya yc mj lj Zj) (fun _ _ _ i _ => nl - (intOf i).toNat)
        case atStart => exact ⟨0, mm, Z, xc, ml, xa, rfl, rfl, rfl, rfl, Nat.zero_le _, I0.out⟩
        case round =>
          obtain ⟨j, mj, Zj, yc, lj, ya, rfl, rfl, rfl, rfl, hjn, hI⟩ := hrel
          have HI := Lib.hid hI
          have hmj : mj ≤ 2170 := by
            rw [← hI.len, putAll_len, HMS.out, List.length_take, Nat.min_eq_left (by rw [HNL.out]; exact hjn)]
            omega
          have hZj : Zj ≤ mj * 10000 := by
            have := sizes_le _ hI.good
            rw [hI.sz, hI.len] at this
            exact this
          by_cases hlt2 : j < nl
          · have hjl : j < x.l.length := by rw [HNL.out]; exact hlt2
            have HST := Lib.hid (put_step es x.q x.l j hjl)
            have t0 := hI.fr.cell t0 (fun h => h)
            have t1 := hI.fr.cell t1 (fun h => h)
            obtain ⟨b2, o2, _, ha2, hys⟩ := HOPS.out (by omega)
            have hy := (hys j hjl).keep (HFW5.out.trans hI.fr) (fun h => h)
            have hyr := HPT.out.2.2.2.2 _ (getD_mem x.l j hjl)
            obtain ⟨y, hy0⟩ : ∃ y, x.l.getD j op0 = y := ⟨_, rfl⟩
            rw [hy0] at hy HST hyr
            obtain ⟨r1, r2, r3, r4⟩ := rightO_parts hyr
            have r5 : 1 ≤ y.k ∧ y.k ≤ 3 := by omega
            have HGY : Hid (EntGood (opEnt (x.q + (j : Int)) y)) := Lib.hid (opEnt_good (by omega) (by omega) hyr)
            obtain ⟨y0, y1, y2⟩ := hy
            rw [ha2] at t1 ⊢
            obtain ⟨Wa, hWa, hfa, p0, p1, p2⟩ := box_op wr y
            obtain ⟨Wb, hWb, hfb, k0, k1, k2⟩ := box_refK Wa y.key (x.q + (j : Int)) y.k
            have hza : Wa.heap.size = wr.heap.size + 1 := by rw [← hWa]; simp
            rw [hza] at k0 k1 k2
            have HWA := Lib.hid hWa
            have HWB := Lib.hid hWb
            have hfab := hfa.trans hfb
            have ta0 := hfa.cell t0 (fun h => h)
            have pb2 := hfb.cell p2 (fun h => h)
            rw [← hWa] at ta0
            have HZA := Lib.hid hza
            have HPU := Lib.hid (refPut_c ya yc mj (putAll es x.q (x.l.take j)) (opEnt (x.q + (j : Int)) y) Wb _ hI.len (by omega) (hI.ents.keep hfab fun _ _ h => h) (fun z hz => (hI.good z hz).wf) HGY.out.wf)
            obtain ⟨es', hes'⟩ : ∃ es', putL (opEnt (x.q + (j : Int)) y) (putAll es x.q (x.l.take j)) = es' := ⟨_, rfl⟩
            rw [hes'] at HPU HST
            have hlen' : es'.length = mj + 1 := by rw [← hes', putL_len, hI.len]
            have HLEN' := Lib.hid hlen'
            have HGOOD' : Hid (∀ z ∈ es', EntGood z) := Lib.hid fun z hz => by
              rw [← hes'] at hz
              rcases putL_mem.1 hz with rfl | hz
              · exact HGY.out
              · exact hI.good z hz
            obtain ⟨LB, hLB⟩ : ∃ LB, (encK y.key.data.toList (x.q + (j : Int)) y.k).length = LB := ⟨_, rfl⟩
            have hsz : (es'.map sizeE).sum = Zj + (LB + y.val.size) := by
              rw [← hes', putL_size, hI.sz]
              show (encK y.key.data.toList (x.q + (j : Int)) y.k).length + y.val.size + Zj = _
              rw [hLB]
              omega
            have HSZ := Lib.hid hsz
            have hLB2 : LB ≤ 10000 := by
              have := HGY.out.size
              have e : sizeE (opEnt (x.q + (j : Int)) y) = LB + y.val.size := by rw [← hLB]; rfl
              omega
            have HBY : Hid (∀ w', Calls Try.prog 25 #[.agg #[.string y.key, .int .i64 (x.q + (j : Int)), .int .i64 y.k]] w' fun e w'' => ∃ a cap, e = .returned (.slice a LB cap) ∧ Fr No w' w'') := Lib.hid fun w' =>
              (refBytes_c y.key (x.q + (j : Int)) y.k w' ⟨by omega, by omega, by omega, by omega, r5.1, r5.2⟩).mono fun e w'' h => by
                obtain ⟨v, rfl, hr, hf⟩ := h
                obtain ⟨a, cap, rfl, _⟩ := hr.form
                rw [hLB]
                exact ⟨a, cap, rfl, hf⟩
            have HFRQ := Lib.hid hI.fr
            have hfWb := hI.fr.trans hfab
            have HFWB := Lib.hid hfWb
            have hj40 : x.q + (j : Int) ≤ 1099511627776 := by omega
            have hv40 : y.val.size ≤ 4096 := r3
            clear hI hy0 hys hyr ha2 hWa hWb hfa hfb hfab hza hes' hlen' hLB hsz hfWb
            go_wp2_with fail
            rw [HWA.out, HWB.out]
            refine (show Calls _ _ _ _ _ from HPU.out).mono ?_
            rintro e w6 ⟨v6, rfl, hr6, hf6⟩
            obtain ⟨za, zc, rfl, hz1, hz2, hz3⟩ := hr6.ents
            rw [HLEN'.out] at hz1 ⊢
            have HEN := Lib.hid (hz3.sub (T := fun k => w.heap.size ≤ k ∧ ¬ F' k) fun k _ h => by
              rcases h with h | h
              · exact h.elim
              · refine ⟨Nat.le_trans (HFW5.out.trans HFWB.out).size h.1, fun h2 => ?_⟩
                have h3 := HH.out.low HD5.out k h2
                have h4 := HFWB.out.size
                have h5 := h.1
                omega)
            have HZC := Lib.hid (show mj + 1 ≤ zc ∧ zc ≤ maxLen from ⟨hz1, hz2⟩)
            have HF6 := Lib.hid (HFWB.out.trans hf6)
            have k0 := hf6.cell k0 (fun h => h)
            have k1 := hf6.cell k1 (fun h => h)
            have k2 := hf6.cell k2 (fun h => h)
            have pb2 := hf6.cell pb2 (fun h => h)
            clear hr6 hf6 hz1 hz2 hz3 HPU t0 t1 y0 y1 y2 ta0 p0 p1 p2
            go_wp2_with fail
            obtain ⟨Tb, hTb⟩ : ∃ Tb, wr.heap.size + 1 = Tb := ⟨_, rfl⟩
            rw [hTb] at k0 k1 k2 ⊢
            obtain ⟨Ta, hTa⟩ : ∃ Ta, wr.heap.size = Ta := ⟨_, rfl⟩
            rw [hTa] at pb2 ⊢
            clear hTa hTb
            have hfx := (Fr.refl No w6).drew
            go_region_held3 (fun w' => w'.cell? ⟨Tb, 0, none⟩ = some (.string y.key) ∧ w'.cell? ⟨Tb, 1, none⟩ = some (.int .i64 (x.q + (j : Int))) ∧ w'.cell? ⟨Tb, 2, none⟩ = some (.int .i64 y.k) ∧ w'.cell? ⟨Ta, 2, none⟩ = some (.string y.val) ∧ Fr No w6 w') (first | assumption | go_keep)
              (first
                | (go_at_call 25; refine (HBY.out _).mono ?_; intro e w7 hret; obtain ⟨ga, gc, rfl, hf7⟩ := hret
                   have k0 := hf7.cell (p := ⟨Tb, 0, none⟩) k0 (fun h => h)
                   have k1 := hf7.cell (p := ⟨Tb, 1, none⟩) k1 (fun h => h)
                   have k2 := hf7.cell (p := ⟨Tb, 2, none⟩) k2 (fun h => h)
                   have pb2 := hf7.cell (p := ⟨Ta, 2, none⟩) pb2 (fun h => h)
                   have hfx := hfx.trans hf7
                   clear hf7))
            have HFX := Lib.hid hfx
            clear hfx
            have HREL : Hid (InnI w w5 w7 F' es ml x.q x.l (j + 1) za zc (mj + 1) (x.q + (j : Int)) (Zj + (LB + y.val.size))) := Lib.hid (by
              refine ⟨by rw [HST.out]; exact HLEN'.out, ?_, by rw [HST.out]; exact HSZ.out, HZC.out, ?_, by rw [HST.out]; exact HGOOD'.out, HF6.out.trans HFX.out⟩
              · rw [if_neg (by omega)]
                simp
                omega
              · rw [HST.out]
                exact HEN.out.keep HFX.out fun _ _ h => h)
            have e1 : IntKind.i64.wrap ((LB : Int) + (y.val.size : Int)) = (LB : Int) + (y.val.size : Int) := IntWalk.i64_in _ (by omega)
            have e2 : IntKind.i64.wrap ((Zj : Int) + ((LB : Int) + (y.val.size : Int))) = (Zj : Int) + ((LB : Int) + (y.val.size : Int)) := IntWalk.i64_in _ (by omega)
            have HWR : Hid (IntKind.i64.wrap ((Zj : Int) + IntKind.i64.wrap ((LB : Int) + (y.val.size : Int))) = ((Zj + (LB + y.val.size) : Nat) : Int)) := Lib.hid (by
              rw [e1, e2]
              simp)
            clear e1 e2
            go_wp2_with fail
            go_roundw
            case rel => exact ⟨j + 1, mj + 1, Zj + (LB + y.val.size), zc, x.q + (j : Int), za, by simp, by simp, by rw [HWR.out], by simp, by omega, HREL.out⟩
            case measure => simp [intOf]; omega
          · have hj' : j = nl := by omega
            have hI := HI.out
            have htk : x.l.take j = x.l := List.take_of_length_le (by rw [HNL.out]; omega)
            have HMM2 : Hid (m'.es.length = mj) := Lib.hid (by rw [HMN.out, ← hI.len, htk])
            have HML2 : Hid (m'.last = lj) := Lib.hid (by rw [HMN.out, hI.last, if_neg (by omega), hj'])
            have HZ2 : Hid (sizeMt m' = Zj) := Lib.hid (by rw [HMN.out, ← hI.sz, htk]; rfl)
            have HC2 := Lib.hid hI.cap
            have HE5 : Hid (Ents wr (fun k => w.heap.size ≤ k ∧ ¬ F' k) ya m'.es) := Lib.hid (by
              have := hI.ents
              rw [htk] at this
              rw [HMN.out]
              exact this)
            have HFW5 := Lib.hid (HFW5.out.trans hI.fr)
            have HD5 := Lib.hid (HH.out.keep HD5.out hI.fr fun _ _ h => h)
            clear hI HI htk
            have HLA : Hid (∀ w6, Fr No wr w6 → Calls Try.prog 23 #[.pointer (some ⟨t, 0, none⟩)] w6 (Ask (.int .i64 lj) w6)) := Lib.hid fun w6 f => by
              have := HH.out.last w6 t F' m' (HH.out.keep HD5.out f fun _ _ h => h)
              rw [HML2.out] at this
              exact this
            have HLE : Hid (∀ w6, Fr No wr w6 → Calls Try.prog 21 #[.pointer (some ⟨t, 0, none⟩)] w6 (Ask (.int .i64 (mj : Int)) w6)) := Lib.hid fun w6 f => by
              have := HH.out.len w6 t F' m' (HH.out.keep HD5.out f fun _ _ h => h)
              rw [HMM2.out] at this
              exact this
            have HSI : Hid (∀ w6, Fr No wr w6 → Calls Try.prog 26 #[.pointer (some ⟨t, 0, none⟩)] w6 (Ask (.int .i64 (Zj : Int)) w6)) := Lib.hid fun w6 f => by
              have := HH.out.size w6 t F' m' (HH.out.keep HD5.out f fun _ _ h => h)
              rw [HZ2.out] at this
              exact this
            have HFI : Hid (∀ w6, Fr No wr w6 → FillI D w t m' w6 ya yc) := Lib.hid fun w6 f => by
              refine ⟨⟨F', HH.out.keep HD5.out f fun _ _ h => h, HF5.out, HE5.out.keep f fun _ _ h => h⟩, ?_, HFW5.out.trans f⟩
              rw [HMM2.out]
              exact HC2.out
            have d1 : (lj != lj) = false := by simp
            have d2 : ((mj : Int) != (mj : Int)) = false := by simp
            have d3 : ((Zj : Int) != (Zj : Int)) = false := by simp
            go_wp2_with fail
            refine (show Calls _ _ _ _ _ from HLA.out wr (Fr.refl _ _)).mono ?_
            rintro e w6 ⟨rfl, hf6⟩
            have HF6 := Lib.hid hf6
            clear hf6
            go_wp2_with fail
            refine (show Calls _ _ _ _ _ from HLE.out w6 HF6.out).mono ?_
            rintro e w7 ⟨rfl, hf7⟩
            have HF7 := Lib.hid (HF6.out.trans hf7)
            clear hf7
            go_wp2_with fail
            refine (show Calls _ _ _ _ _ from HSI.out w7 HF7.out).mono ?_
            rintro e w8 ⟨rfl, hf8⟩
            have HF8 := Lib.hid (HFI.out w8 (HF7.out.trans hf8))
            clear hf8
            go_wp2_with fail
            go_roundw
            case rel =>
              refine ⟨k + 1, ya, yc, ?_, ?_, ?_, by simp, by omega, ?_⟩
              · rw [HM'.out, HMM2.out]
              · rw [HM'.out, HML2.out]
              · rw [HM'.out, HZ2.out]
              · rw [HM'.out]
                exact HF8.out
            case measure => simp [intOf]; omega
    · have hk' : k = n := by omega
      have HOUT : Hid (FillOut D (foldM L) w (.returned (.tuple #[.pointer (some ⟨t, 0, none⟩), .slice xa (foldM (L.take k)).es.length xc, .bool true])) wr) := Lib.hid (by
        have e : L.take k = L := List.take_of_length_le (by rw [HN.out]; omega)
        rw [e] at hI ⊢
        obtain ⟨⟨F, hD, hF, hE⟩, ⟨hc1, hc2⟩, hfr⟩ := hI
        exact ⟨t, F, xa, xc, rfl, hD, hF, hE.sub fun k _ h => h.1, hc1, hc2, hfr⟩)
      obtain ⟨mm, hmm⟩ : ∃ mm, (foldM (L.take k)).es.length = mm := ⟨_, rfl⟩
      rw [hmm] at HOUT ⊢
      clear hI HG hmm
      go_wp2_with fail
      go_ret3
      exact HOUT.out
end Go.Proofs.Ytggjkpgkmohmdaa
