/-
  Layer 12, the program's own: Find.
-/
import Derived.Test.YtiacdakaolghmaaBdJ
namespace Go.Proofs.Ytiacdakaolghmaa
set_option linter.unusedVariables false
open Go.RowKit Go.Shelf
attribute [local go_sem] Oper.semAt_some

/-- What the rounds of a Find keep. -/
def FkI (w w1 : World) (I : Nat) (L : List Pr) (base : Nat) (key : ByteArray) (pre : List (Plc L.length)) (W : World) : Prop :=
  At W w.heap.size 9 #[.string key] ∧ At W I 3 #[.int .i64 ((base + pre.length : Nat) : Int)] ∧ (∀ y ∈ pl L pre, cmpB (bs y.key) (bs key) < 0) ∧ pre.length ≤ 40000 ∧ Fr No w W ∧ w1.heap.size ≤ W.heap.size
theorem own_fkI (w w1 : World) (I : Nat) (L : List Pr) (base : Nat) (key : ByteArray) (h : w.heap.size ≤ w1.heap.size) : OwnFrom w1.heap.size (FkI w w1 I L base key) := fun pre W W' row ⟨h1, h2, h3, h6, h4, h5⟩ hg hr =>
  ⟨own_at h1 hg hr, own_at h2 hg hr, h3, h6, own_fr h h4 hg hr, Nat.le_trans h5 hg.size⟩
def FkX (w : World) (I : Nat) (L : List Pr) (base : Nat) (key : ByteArray) (c : Code) (pre : List (Plc L.length)) (W : World) : Prop :=
  c = .exit 0 ∧ ∃ (p : List (Plc L.length)) (z : Plc L.length), pre = p ++ [z] ∧ (∀ y ∈ pl L p, cmpB (bs y.key) (bs key) < 0) ∧ 0 ≤ cmpB (bs (L.getD z.val pr0).key) (bs key) ∧ At W I 3 #[.int .i64 ((base + p.length : Nat) : Int)] ∧ Fr No w W
theorem own_fkX (w w1 : World) (I : Nat) (L : List Pr) (base : Nat) (key : ByteArray) (c : Code) (h : w.heap.size ≤ w1.heap.size) : OwnFrom w1.heap.size (FkX w I L base key c) := fun pre W W' row ⟨h0, p, z, h1, h2, h3, h4, h5⟩ hg hr =>
  ⟨h0, p, z, h1, h2, h3, own_at h4 hg hr, own_fr h h5 hg hr⟩
theorem getD_drop (l : List Pr) (b j : Nat) : (l.drop b).getD j pr0 = l.getD (b + j) pr0 := by
  rw [List.getD_eq_getElem?_getD, List.getD_eq_getElem?_getD, List.getElem?_drop]
/-- Where a key stands, behind a restart that is below it. -/
theorem find_behind {l : List Pr} (ho : ordP l) {key : ByteArray} {b n : Nat} (hb : b < l.length) (hk : cmpB (bs (l.getD b pr0).key) (bs key) < 0) (hn : b + n ≤ l.length) (h1 : ∀ y ∈ (l.drop b).take n, cmpB (bs y.key) (bs key) < 0) (h2 : b + n < l.length → 0 ≤ cmpB (bs (l.getD (b + n) pr0).key) (bs key)) : findP l key = b + n := by
  refine findP_only hn (fun j hj => ?_) h2
  unfold notBelow
  rcases Nat.lt_or_ge j b with h | h
  · have h3 := ord_lt' ho h hb
    unfold cmpP at h3
    have := cmpB_lt_trans h3 hk
    omega
  · have h4 : l.getD j pr0 ∈ (l.drop b).take n := by
      have h5 : ((l.drop b).take n).getD (j - b) pr0 = l.getD j pr0 := by
        rw [List.getD_eq_getElem?_getD, List.getElem?_take, if_pos (by omega), List.getElem?_drop, show b + (j - b) = j by omega, List.getD_eq_getElem?_getD]
      rw [← h5]
      exact getD_memPr _ _ (by rw [List.length_take, List.length_drop]; omega)
    have := h1 _ h4
    omega
set_option maxRecDepth 100000 in
set_option maxHeartbeats 4000000 in
theorem find_c {w : World} {x : Nat} {F : Nat → Prop} {l : List Pr} {e : Nat} (h : Bk w x F l e) (key : ByteArray) :
    Calls Try.prog 22 #[.pointer (some ⟨x, 0, none⟩), .string key] w (PlainRet (.int .i64 (findP l key : Int)) w) := by
  obtain ⟨W0, hW⟩ : ∃ W, w.alloc (.cells #[.string key] 9) = W := ⟨_, rfl⟩
  have f0 : Fr No w W0 := by rw [← hW]; exact (Fr.refl No w).alloc _
  have s0 : W0.heap.size = w.heap.size + 1 := by rw [← hW]; simp
  have a0 : At W0 w.heap.size 9 #[.string key] := by rw [← hW]; exact At.new _ _ _
  have hb := h.keep f0 (fun _ _ h => h)
  have CF := Lib.hid (first_c hb w.heap.size key (a0.cell 0))
  obtain ⟨_, _, p, a, c, hh⟩ := id hb
  have HFT := Lib.hid hh.ft
  have c3 : W0.cell? ⟨x, 3, none⟩ = some (.int .i64 (e : Int)) := hh.hd.cell 3
  have HB := Lib.hid hb
  have HA0 := Lib.hid a0
  have HF0 := Lib.hid f0
  have HS0 := Lib.hid s0
  have HW := Lib.hid hW
  have hns := hh.ft.starts
  clear h hb hh hW f0 a0 s0
  refine (callsIn_wide (n := 5)).1 ?_
  refine callsIn_of_wp_marks Try.func22 rfl trivial ?_ rfl
  simp only [Try.ntmps22, List.size_toArray, List.length_cons, List.length_nil, Nat.reduceAdd, Nat.reduceSub, Array.replicate_succ, Array.replicate_zero, List.push_toArray, List.append_toArray, List.nil_append, List.cons_append]
  refine wpIn_wide.2 ?_
  go_wp2_with fail
  rw [HW.out]
  refine (show Calls _ _ _ _ _ from CF.out).mono ?_
  rintro en w2 ⟨r, rfl, hr1, hr2, hr3, f2⟩
  have HR2 := Lib.hid hr2
  have HR3 := Lib.hid hr3
  have HF2 := Lib.hid (HF0.out.trans f2)
  have HA2 := Lib.hid (HA0.out.keep f2 (fun h => h))
  have HB2 := Lib.hid (HB.out.keep f2 (fun _ _ h => h))
  have c32 := f2.cell c3 (fun h => h)
  have HS2 : Hid (w.heap.size + 1 ≤ w2.heap.size) := Lib.hid (by have := f2.size; have := HS0.out; omega)
  clear hr2 hr3 f2 CF HB HA0 HF0
  by_cases hz : r = 0
  · subst hz
    have HV : Hid (findP l key = 0) := Lib.hid (by
      refine findP_only (Nat.zero_le _) (fun j hj => absurd hj (Nat.not_lt_zero j)) fun h0 => ?_
      have h1 := startsN_count e HFT.out.e1 l 0 h0
      rw [Nat.zero_div] at h1
      have h2 : nbB (l.getD (0 * e) pr0).key key = true := HR3.out h1
      unfold nbB at h2
      rw [Nat.zero_mul, decide_eq_true_eq] at h2
      exact h2)
    clear HR2 HR3
    go_wp2_with fail
    exact ⟨_, results_tmp rfl _ _ _, by rw [HV.out]; rfl, HF2.out⟩
  · obtain ⟨r1, rfl⟩ : ∃ r1, r = r1 + 1 := ⟨r - 1, by omega⟩
    have hg := startsN_get e HFT.out.e1 l r1 (by omega)
    obtain ⟨base, hbase⟩ : ∃ base, r1 * e = base := ⟨_, rfl⟩
    have HLOW : Hid (cmpB (bs (l.getD base pr0).key) (bs key) < 0) := Lib.hid (by
      have : nbB (l.getD (r1 * e) pr0).key key = false := HR2.out r1 (by omega)
      unfold nbB at this
      rw [hbase, decide_eq_false_iff_not] at this
      omega)
    have hlt : base < l.length := by rw [← hbase]; exact hg.2
    have hl4 := HFT.out.len
    have he2 := HFT.out.e2
    have he1 := HFT.out.e1
    have hri : ((r1 + 1 : Nat) : Int) - 1 = (r1 : Int) := by omega
    have hr10 : ((r1 : Int) + 1 == 0) = false := by rw [beq_eq_false_iff_ne]; omega
    have hmul : (r1 : Int) * (e : Int) = (base : Int) := by rw [← hbase]; simp
    have hr1l : r1 ≤ 40000 := by omega
    obtain ⟨W3, hW3⟩ : ∃ W, w2.alloc (.cells #[.int .i64 (base : Int)] 3) = W := ⟨_, rfl⟩
    have f3 : Fr No w2 W3 := by rw [← hW3]; exact (Fr.refl No w2).alloc _
    have s3 : W3.heap.size = w2.heap.size + 1 := by rw [← hW3]; simp
    have HI3 : Hid (At W3 w2.heap.size 3 #[.int .i64 (base : Int)]) := Lib.hid (by rw [← hW3]; exact At.new _ _ _)
    have CFR := Lib.hid (from_c (HB2.out.keep f3 (fun _ _ h => h)) r1 (by omega))
    rw [hbase] at CFR
    have HF3 := Lib.hid (HF2.out.trans f3)
    have HA3 := Lib.hid (HA2.out.keep f3 (fun h => h))
    have HS3 := Lib.hid s3
    have HW3 := Lib.hid hW3
    have HLT := Lib.hid hlt
    clear hg HR2 HR3 hW3 f3 s3 hbase HB2 HA2 HF2
    go_wp2_with fail
    rw [HW3.out]
    refine (show Calls _ _ _ _ _ from CFR.out).mono ?_
    rintro en w1 ⟨B1, B2, b, rfl, f1, cb1, cb2, z1, z2, hbz, hrd⟩
    have HF1 := Lib.hid (HF3.out.trans f1)
    have HA1 := Lib.hid (HA3.out.keep f1 (fun h => h))
    have HI1 := Lib.hid (HI3.out.keep f1 (fun h => h))
    rw [HS3.out] at z1 z2
    have hb1 := cell_block cb1
    have hb2 := cell_block cb2
    simp only at hb1 hb2
    obtain ⟨L, hL⟩ : ∃ L, readR e 0 emp b = L := ⟨_, rfl⟩
    have HSQ : Hid (Tells 44 #[.pointer (some ⟨B1, 0, none⟩), .pointer (some ⟨B2, 0, none⟩)] L (fun k => k = B1 ∨ k = B2) w1) := Lib.hid (by rw [← hL]; exact tells_read hbz he1 he2 cb1 cb2 (.inr rfl))
    rw [hL] at hrd
    have HLD := Lib.hid hrd
    have HLL : Hid (L.length ≤ 40000) := Lib.hid (by rw [hrd, List.length_drop]; omega)
    obtain ⟨I, hI⟩ : ∃ I, w2.heap.size = I := ⟨_, rfl⟩
    rw [hI] at HI1 z1 z2
    have HIL : Hid (w.heap.size < I ∧ I < w1.heap.size) := Lib.hid ⟨by have := HS2.out; omega, HI1.out.lt⟩
    clear f1 CFR cb1 cb2 hrd hL
    go_wp2_with fail
    refine (wpIn_wide (n := 5)).1 ?_
    have hf1 := HF1.out
    refine wpIn_rangeFunc_ownH rfl (by omega) (gf := 44) (lb := #[.pointer (some ⟨B1, 0, none⟩), .pointer (some ⟨B2, 0, none⟩)]) rfl trivial (enters_of Try.func44 (by kernel_rfl) rfl) HSQ.out
      (fun h k => h.trans k) (fun W k o o' hk h1 h2 _ => Kq.put W k o' (fun h => by rcases h with h | h <;> omega) h1 h2) (Below.refl _ _) (fun _ => rfl)
      (FkI w w1 I L base key) (FkX w I L base key) (own_fkI w w1 I L base key hf1.size) (fun c => own_fkX w w1 I L base key c hf1.size)
      ⟨HA1.out, HI1.out, (fun y hy => absurd hy (by simp [pl])), Nat.zero_le _, hf1, Nat.le_refl _⟩
      (fun z a' W => ∃ O, a' = { tmps := #[.pointer (some ⟨x, 0, none⟩), .string key, undef, .pointer (some ⟨w.heap.size, 0, none⟩), .int .i64 0, .int .i64 ((r1 : Int) + 1), .pointer (some ⟨I, 0, none⟩), .pointer (some ⟨O, 0, none⟩), .pointer (some ⟨x, 0, none⟩), pastV w.heap.size, .int .i64 ((r1 : Int) + 1), .int .i64 ((r1 : Int) + 1), .bool false, .int .i64 ((r1 : Int) + 1), .int .i64 (r1 : Int), .pointer (some ⟨x, 0, none⟩), .pointer (some ⟨x, 0, none⟩), .pointer (some ⟨x, 3, none⟩), .int .i64 (e : Int), .int .i64 (base : Int), .pointer (some ⟨x, 0, none⟩), .int .i64 ((r1 : Int) + 1), .int .i64 (r1 : Int), seqR B1 B2, prV (L.getD z.val pr0), undef, undef, undef, undef, undef, undef, undef], defers := [] } ∧ At W O 39 #[.string (L.getD z.val pr0).key, .string (L.getD z.val pr0).val] ∧ w1.heap.size ≤ O)
      (fun z a' => fun _ W W' row ⟨O, h1, h2, h3⟩ hg hr => ⟨O, h1, own_at h2 hg hr, h3⟩) ?assign ?body ?done ?stop
    case assign =>
      rintro y pre z W K ⟨h1, h2, h3, h6, h4, h5⟩ hK
      obtain ⟨x', hx⟩ : ∃ x', L.getD z.val pr0 = x' := ⟨_, rfl⟩
      rw [hx] at hK ⊢
      obtain ⟨W3, hW3⟩ : ∃ W3, W.alloc (.cells #[.string x'.key, .string x'.val] 39) = W3 := ⟨_, rfl⟩
      have hf3 : Fr No W W3 := by rw [← hW3]; exact (Fr.refl No W).alloc _
      have hat : At W3 W.heap.size 39 #[.string x'.key, .string x'.val] := by rw [← hW3]; exact At.new _ _ _
      have HK1 := Lib.hid (fun a' ee => hK a' W3 (by rw [← hW3]; exact (KeepsOthers.alloc _ _).from _) (Kq.of_fr hf3) ⟨h1.keep hf3 (fun h => h), h2.keep hf3 (fun h => h), h3, h6, h4.trans hf3, Nat.le_trans h5 hf3.size⟩ ⟨W.heap.size, ee, hat, h5⟩)
      have HW3 := Lib.hid hW3
      clear hK h1 h2 h3 h4 h5 h6 hW3 hf3 hat
      unfold prV
      gi_wp2
      rw [HW3.out]
      exact HK1.out _ rfl
    case body =>
      rintro y pre z W2 W hy hl2 ⟨h1, h2, h3, h6, h4, h5⟩ ⟨O, rfl, hat, hO⟩ hlen
      obtain ⟨x', hx⟩ : ∃ x', L.getD z.val pr0 = x' := ⟨_, rfl⟩
      rw [hx] at hat
      have g0 := hat.cell 0
      have ck := h1.cell 0
      have c6 := h2.cell 0
      have z6 := h2.frozen 0
      have hgs := geq_str x'.key key
      obtain ⟨v, hv⟩ : ∃ v, base + pre.length = v := ⟨_, rfl⟩
      rw [hv] at h2 c6
      by_cases hge : 0 ≤ cmpB (bs x'.key) (bs key)
      · rw [decide_eq_true hge] at hgs
        have FIN : Hid (KeepsFrom w1.heap.size W W ∧ FkX w I L base key (.exit 0) (pre ++ [z]) W) := Lib.hid
          ⟨(KeepsOthers.refl W).from _, rfl, pre, z, rfl, h3, by rw [hx]; exact hge, by rw [hv]; exact h2, h4⟩
        rw [hx]
        have HV := Lib.hid hv
        clear h1 h2 h3 h4 h5 h6 hat hO hx hlen hy hl2 hv hge
        unfold prV
        gi_wp2
        exact FIN.out
      · rw [decide_eq_false hge] at hgs
        have fs := fr_one W I 0 (.int .i64 ((v + 1 : Nat) : Int))
        have FIN : Hid (KeepsFrom w1.heap.size W (W.setCell ⟨I, 0, none⟩ (.int .i64 ((v + 1 : Nat) : Int))) ∧ Kq (fun k => k = B1 ∨ k = B2) W (W.setCell ⟨I, 0, none⟩ (.int .i64 ((v + 1 : Nat) : Int))) ∧ FkI w w1 I L base key (pre ++ [z]) (W.setCell ⟨I, 0, none⟩ (.int .i64 ((v + 1 : Nat) : Int)))) := Lib.hid
          ⟨(KeepsOthers.setCell _ _ _).from _, ⟨fs.size, fun k hk hs => fs.block k hk (fun h => by
            have h : k = I := h
            subst h
            rcases hs with (hs | hs) | ⟨cs, fz, hs⟩
            · omega
            · omega
            · have := h2.symm.trans hs; cases this)⟩, h1.keep fs (fun h => by have h : w.heap.size = I := h; have := HIL.out; omega), by
              have e9 : base + (pre ++ [z]).length = v + 1 := by rw [List.length_append, List.length_singleton]; omega
              rw [e9]
              exact h2.set_ 0 _, by
              intro u hu
              rw [pl_app, hx] at hu
              rcases List.mem_append.1 hu with hu | hu
              · exact h3 u hu
              · rw [List.mem_singleton.1 hu]; omega, by have := HLL.out; rw [List.length_append, List.length_singleton]; omega, h4.then_ fs (fun k hk h => by have h : k = I := h; have := HIL.out; omega), Nat.le_trans h5 fs.size⟩
        rw [show ((v + 1 : Nat) : Int) = (v : Int) + 1 from rfl] at FIN
        have hvb : v ≤ 80000 := by omega
        rw [hx]
        have HV := Lib.hid hv
        clear h1 h2 h3 h4 h5 h6 hat hO hx hlen hy hl2 hv hge fs
        unfold prV
        gi_wp2
        exact FIN.out
    case done =>
      rintro D ys W hD rfl ⟨h1, h2, h3, h6, h4, h5⟩ hK
      rw [up_len _ _ (Nat.le_refl _)] at h2
      rw [pl_all] at h3
      have hLl := congrArg List.length HLD.out
      rw [List.length_drop] at hLl
      have HV : Hid (findP l key = base + L.length) := Lib.hid (by
        refine find_behind HFT.out.ord HLT.out HLOW.out (by have := HLT.out; omega) (fun u hu => h3 u ?_) (fun h => by omega)
        rw [HLD.out] at hu ⊢
        exact List.mem_of_mem_take hu)
      have c6 := h2.cell 0
      have hf1s := hf1.size
      have H4 := Lib.hid h4
      have HK := Lib.hid hK
      clear h1 h2 h3 h4 h5 h6 hLl hK
      go_wp2_with fail
      refine ⟨by simp, .inl ⟨_, _, rfl, run_takeDeferred HK.out, ?_⟩⟩
      have hg := grownBy_putObj' W D (.deferred none)
      have hr : Turns w1.heap.size W (some D) := fun r e => by cases e; exact ⟨hD, _, HK.out, rfl⟩
      exact ⟨_, results_tmp rfl _ _ _, by rw [HV.out]; rfl, own_fr hf1s H4.out hg hr⟩
    case stop =>
      rintro D c pre W hD hpre ⟨rfl, p', z, rfl, h2, h3, h4, h5⟩ hK
      have hz := up_last hpre
      have hpl : p'.length < L.length := by have := up_last' hpre; rw [List.length_append, List.length_singleton] at this; omega
      have hpp : pl L p' = L.take p'.length := by
        have h7 : p' <+: up L.length L.length := (List.prefix_append _ _).trans hpre
        have h8 := pl_up L p'.length (by omega)
        rw [← (up_pre h7).2] at h8
        exact h8
      have hLl := congrArg List.length HLD.out
      rw [List.length_drop] at hLl
      obtain ⟨pm, hpm⟩ : ∃ pm, p'.length = pm := ⟨_, rfl⟩
      rw [hpm] at hz hpl hpp h4
      have hzz : L.getD z.val pr0 = l.getD (base + pm) pr0 := by
        have e9 : L.getD z.val pr0 = L.getD pm pr0 := by rw [hz]
        rw [e9, HLD.out, getD_drop]
      have HV : Hid (findP l key = base + pm) := Lib.hid (by
        refine find_behind HFT.out.ord HLT.out HLOW.out (by have := HLT.out; omega) (fun u hu => h2 u ?_) (fun h => by rw [hzz] at h3; exact h3)
        rw [hpp, HLD.out]
        exact hu)
      have c6 := h4.cell 0
      have hf1s := hf1.size
      have H5 := Lib.hid h5
      have HK := Lib.hid hK
      clear h2 h3 h4 h5 hLl hK hz hzz hpp hpl hpre hpm
      gi_wp2
      go_wp2_with fail
      refine ⟨by simp, .inl ⟨_, _, rfl, run_takeDeferred HK.out, ?_⟩⟩
      have hg := grownBy_putObj' W D (.deferred none)
      have hr : Turns w1.heap.size W (some D) := fun r e => by cases e; exact ⟨hD, _, HK.out, rfl⟩
      exact ⟨_, results_tmp rfl _ _ _, by rw [HV.out]; rfl, own_fr hf1s H5.out hg hr⟩
end Go.Proofs.Ytiacdakaolghmaa
