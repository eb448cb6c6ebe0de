/-
  Layer 11, the program's own: Entries, Users.
-/
import Derived.Test.YtggjkpgkmohmdaaMmB
import Derived.Test.YtggjkpgkmohmdaaIkS
namespace Go.Proofs.Ytggjkpgkmohmdaa
set_option linter.unusedVariables false
open Go.RowKit

theorem rowEntM : RowT Try.prog 32 39 (.agg #[.string ⟨#[]⟩, .int .i64 0, .int .i64 0, .string ⟨#[]⟩]) 4 48 := ⟨Try.underlying32, by kernel_rfl, rfl, by decide⟩
theorem make_ents (w : World) (c : Nat) (hc : c ≤ 100000) : ∃ v w', (Instr.makeSlice 32 (.int .i64 0) (.int .i64 (c : Int))).run Try.prog w = .ok v w' ∧ RowG w' (Gr No w w') 39 4 v 0 [] ∧ Fr No w w' := by
  obtain ⟨i0, hi, hz0, hz1, hz2⟩ := info_parts rowEntM.info
  have hr := run_make (P := Try.prog) w 32 39 i0 (.agg #[.string ⟨#[]⟩, .int .i64 0, .int .i64 0, .string ⟨#[]⟩]) Try.underlying32 hi hz0 .i64 .i64 0 c (by omega) (by omega) (by rw [hz2]; omega) (by omega)
  rw [hz1] at hr
  refine ⟨_, _, hr, ⟨⟨rfl, .inr ⟨w.heap.size, c, _, rfl, Nat.zero_le _, heap_alloc_new w _, Nat.zero_le _, by unfold maxLen; omega, ?_, rfl⟩⟩, ?_⟩, (Fr.refl No w).alloc _⟩
  · simp [size_madeCells]
  · intro b hb
    have hb : w.heap.size = b := by simpa [Value.ownBlock] using hb
    exact .inr ⟨by omega, by simp; omega⟩
theorem push_entS {P : Program} {t e : TypeId} {z : Value} {n : Nat} (hT : RowT P t e z 4 n) (hn : n ≤ 1000) {S : Nat → Prop} (W0 wr : World) (hS : ∀ q, S q → q < W0.heap.size) (vo : Value) (m : Nat) (o : List Ent) (x : Ent) (hm : o.length = m) (hrow : RowG wr (Gr S W0 wr) e 4 vo m (entsC o)) (hfr : Fr S W0 wr) (hl : m ≤ 1000000) :
    ∃ v' w', (Builtin.append_ #[t, t] t #[vo, .slice (some ⟨wr.heap.size, 0, none⟩) 1 1]).run P (wr.alloc (.cells #[.string x.u, .int .i64 x.q, .int .i64 x.k, .string x.val] e)) = .ok v' w' ∧
      RowG w' (Gr S W0 w') e 4 v' (m + 1) (entsC (o ++ [x])) ∧ Fr S W0 w' := by
  subst hm
  have hb : (o.length + 1) * n ≤ 1000001 * 1000 := Nat.mul_le_mul (by omega) hn
  obtain ⟨v', w', h1, h2, h3⟩ := hrow.push hT (fun q hq => hq.elim (fun h => Nat.lt_of_lt_of_le (hS q h) hfr.size) (fun h => h.2)) (entC x) rfl (by intro u hu; simp [entC] at hu; rcases hu with rfl | rfl | rfl | rfl <;> rfl) (by omega) (by omega)
  refine ⟨v', w', h1, ?_, hfr.then_ h3 fun q hq h => h.elim (fun h => h) (fun h => absurd hq (by omega))⟩
  rw [entsC_append]
  have e : entsC [x] = entC x := by simp [entsC]
  rw [e]
  exact h2.join hfr.size h3.size
set_option maxRecDepth 20000 in
set_option maxHeartbeats 3200000 in
theorem tentries_c (w : World) (t : Nat) (F : Nat → Prop) (m : Mt) (H : Dm w t F m) (hl : m.es.length ≤ 100000) : Calls Try.prog 11 #[.pointer (some ⟨t, 0, none⟩)] w (NewEnts 39 m.es w) := by
  have HLN := Lib.hid (tlen_c w t F m H)
  obtain ⟨sb, hb, hs, mb, ns, hT, hF, hsr, hgd⟩ := H
  have HT := Lib.hid hT
  obtain ⟨n, hn⟩ : ∃ n, m.es.length = n := ⟨_, rfl⟩
  have HN := Lib.hid hn
  rw [hn] at HLN hl
  have hnl : ns.length = n := hT.len.trans hn
  clear hT hF hsr hgd hn
  go_enter Try.func11, Try.ntmps11
  go_wp2_with fail
  refine (show Calls _ _ _ _ _ from HLN.out).mono ?_
  rintro e w1 ⟨rfl, hf1⟩
  obtain ⟨v0, w2, hmk, hrow, hfr⟩ := make_ents w1 n hl
  have HR2 := Lib.hid (hrow.sub (T := fun k => w1.heap.size ≤ k ∧ k < w2.heap.size) fun b _ h => h.elim (fun h => absurd h (fun h => h)) fun h => h)
  have HF1 := Lib.hid hf1
  have HF2 := Lib.hid (hf1.trans hfr)
  have HT2 := Lib.hid (HT.out.keep (hf1.trans hfr) (fun _ _ h => h))
  have t0 := HT2.out.tb.cell 0
  simp at t0
  have HKS := Lib.hid (KU.keys_c sb hb hs ns w2 HT2.out.sk (by omega))
  obtain ⟨va0, vc0, hv0, _, _, _, _⟩ := hrow.form
  subst hv0
  clear hf1 hrow hfr
  go_wp2_with fail
  refine (show Calls _ _ _ _ _ from HKS.out).mono ?_
  rintro e w3 ⟨⟨vk, rfl, hrk⟩, hf3⟩
  obtain ⟨ka, kc, rfl, k1, k2, _, hkc⟩ := hrk.form
  rw [hnl] at k1 hkc ⊢
  have HKC := Lib.hid hkc
  have HF3 := Lib.hid (HF2.out.trans hf3)
  obtain ⟨S, hSd⟩ : ∃ S : Nat → Prop, S = fun k => w1.heap.size ≤ k ∧ k < w2.heap.size := ⟨_, rfl⟩
  have HS : Hid (∀ q, S q → w1.heap.size ≤ q ∧ q < w2.heap.size) := Lib.hid fun q h => by rw [hSd] at h; exact h
  have HR3 : Hid (RowG w3 (Gr S w3 w3) 39 4 (.slice va0 0 vc0) 0 []) := Lib.hid ((HR2.out.keep hf3 (fun _ _ h => h)).sub fun b _ h => by rw [hSd]; exact .inl h)
  have HSZ := Lib.hid (show w2.heap.size ≤ w3.heap.size from hf3.size)
  have HT3 := Lib.hid (HT2.out.keep hf3 (fun _ _ h => h))
  clear hmk hrk hf3 hkc t0 HKS hSd
  go_wp2_with fail
  go_loopw [3, 15] (fun vo i wr => ∃ j : Nat, i = .int .i64 (j : Int) ∧ j ≤ n ∧ RowG wr (Gr S w3 wr) 39 4 vo j (entsC (m.es.take j)) ∧ Fr S w3 wr) (fun _ i _ => n - (intOf i).toNat)
  case atStart => exact ⟨0, rfl, Nat.zero_le _, HR3.out, Fr.refl _ _⟩
  case round =>
    obtain ⟨j, rfl, hj, hrow, hfr⟩ := hrel
    obtain ⟨va, vc, rfl, _, _, _, _⟩ := hrow.form
    have HR := Lib.hid hrow
    have HF := Lib.hid hfr
    clear hrow
    by_cases hlt : j < n
    · have hjl : j < m.es.length := by rw [HN.out]; exact hlt
      obtain ⟨d, hdS, rfl, hkc⟩ := HKC.out (by omega)
      have hdn : ¬ S d := fun h => by
        have := HS.out d h
        rcases hdS with h2 | h2
        · exact h2
        · omega
      have hkj : (KU.keysC ns)[j]? = some (.string (txt (m.es.getD j ent0))) := by
        have h1 : (ns.map (·.k))[j]? = (m.es.map txt)[j]? := by rw [HT3.out.ks]
        rw [List.getElem?_map, List.getElem?_map, List.getElem?_eq_getElem (by omega), List.getElem?_eq_getElem hjl] at h1
        have h2 : (ns[j]'(by omega)).k = txt m.es[j] := by simpa using h1
        rw [KU.keysC_at j (by omega), h2, getD_ent m.es j hjl]
      have g0 := hfr.cell ((hkc (j * 1) (by omega)).1.trans (by rw [Nat.mul_one]; exact hkj)) hdn
      rw [Nat.mul_one] at g0
      have hTr := HT3.out.keep hfr (fun k hk h => by have := HT.out.lt k hk; have := HS.out k h; have := HF1.out.size; omega)
      have hem := getD_memE m.es j hjl
      have HTK := Lib.hid (take_ent m.es j hjl)
      obtain ⟨x, hx⟩ : ∃ x, m.es.getD j ent0 = x := ⟨_, rfl⟩
      rw [hx] at g0 hem HTK
      have hlk := hTr.mp.look hem (hTr.good x hem)
      unfold entV at hlk
      have t1 := hTr.tb.cell 1
      simp at t1
      obtain ⟨v', w', hrun, hrow', hfr'⟩ := push_entS rowEntM (by decide) w3 wr (fun q h => by have := HS.out q h; have := HSZ.out; omega) _ j (m.es.take j) x (by rw [List.length_take]; omega) HR.out hfr (by omega)
      have HRUN := Lib.hid hrun
      have HR' : Hid (RowG w' (Gr S w3 w') 39 4 v' (j + 1) (entsC (m.es.take (j + 1)))) := Lib.hid (by rw [HTK.out]; exact hrow')
      have HFW := Lib.hid hfr'
      obtain ⟨va', vc', rfl, _, _, _, _⟩ := hrow'.form
      clear hrun hrow' hfr' hkj hTr hem hkc hx hfr
      go_wp2_with (at_builtin; refine wpList_append_run rfl _ _ 32 rfl rfl rfl HRUN.out ?_)
      go_roundw
      case rel => exact ⟨j + 1, by simp, by omega, HR'.out, HFW.out⟩
      case measure => simp [intOf]; omega
    · have hj' : j = n := by omega
      subst hj'
      have HE : Hid (m.es.take j = m.es) := Lib.hid (List.take_of_length_le (by rw [HN.out]; exact Nat.le_refl _))
      clear hfr
      go_wp2_with fail
      go_ret
      refine ⟨_, rfl, ?_, HF3.out.then_ HF.out fun k hk h => by have := HS.out k h; have := HF1.out.size; omega⟩
      have := HR.out
      rw [HE.out] at this
      rw [HN.out]
      refine this.sub fun k hk h => .inr ⟨?_, hk⟩
      rcases h with h | h
      · exact Nat.le_trans HF1.out.size (HS.out k h).1
      · exact Nat.le_trans HF3.out.size h.1
end Go.Proofs.Ytggjkpgkmohmdaa
namespace Go.Proofs.Ytggjkpgkmohmdaa
set_option linter.unusedVariables false
open Go.RowKit

/-- The user of the last entry seen among the first n. -/
def toldE (l : List Ent) (at_ : Int) : Nat → ByteArray
  | 0 => ⟨#[]⟩
  | n + 1 => if (l.getD n ent0).u = toldE l at_ n then toldE l at_ n else if (l.getD n ent0).q ≤ at_ then (l.getD n ent0).u else toldE l at_ n
theorem cmpE_le {x y : Ent} (h : cmpE x y < 0) : cmpB x.u.data.toList y.u.data.toList ≤ 0 := by
  by_cases hu : x.u.data.toList = y.u.data.toList
  · rw [hu, cmpB_self]
    exact Int.le_refl 0
  · have := cmpK_other hu x.q x.k y.q y.k
    unfold cmpE at h
    omega
theorem between {x y z : Ent} (h1 : cmpE x y < 0) (h2 : cmpE y z < 0) (h : x.u = z.u) : y.u = z.u := by
  have a := cmpE_le h1
  have b := cmpE_le h2
  rw [h, cmpB_neg y.u.data.toList z.u.data.toList] at a
  exact ba_inj (cmpB_zero _ _ (by omega))
theorem toldE_one (l : List Ent) (at_ : Int) : ∀ n, n ≤ l.length → (toldE l at_ n = ⟨#[]⟩ ∨ ∃ i, i < n ∧ (l.getD i ent0).u = toldE l at_ n ∧ (l.getD i ent0).q ≤ at_)
  | 0, _ => .inl rfl
  | n + 1, hn => by
    have ih := toldE_one l at_ n (by omega)
    have ih' : toldE l at_ n = ⟨#[]⟩ ∨ ∃ i, i < n + 1 ∧ (l.getD i ent0).u = toldE l at_ n ∧ (l.getD i ent0).q ≤ at_ := ih.imp id fun ⟨i, hi, h⟩ => ⟨i, by omega, h⟩
    unfold toldE
    split
    · exact ih'
    · split
      · rename_i h
        exact .inr ⟨n, by omega, rfl, h⟩
      · exact ih'
theorem toldE_two {l : List Ent} (h : Srt l) (at_ : Int) : ∀ n, ∀ i j, i < n → n ≤ j → j < l.length → (l.getD i ent0).q ≤ at_ → (l.getD i ent0).u = (l.getD j ent0).u → toldE l at_ n = (l.getD j ent0).u
  | 0, i, j, hi, _, _, _, _ => absurd hi (by omega)
  | n + 1, i, j, hi, hj, hjl, hq, hu => by
    have hpw := List.pairwise_iff_getElem.1 h
    rcases Nat.lt_or_ge i n with h1 | h1
    · have ih := toldE_two h at_ n i j h1 (by omega) hjl hq hu
      have hn : (l.getD n ent0).u = (l.getD j ent0).u := by
        rw [getD_ent l i (by omega)] at hu
        rw [getD_ent l n (by omega), getD_ent l j hjl] at *
        exact between (hpw i n (by omega) (by omega) h1) (hpw n j (by omega) hjl (by omega)) hu
      unfold toldE
      rw [ih, if_pos hn]
    · have : i = n := by omega
      subst this
      unfold toldE
      by_cases h2 : (l.getD i ent0).u = toldE l at_ i
      · rw [if_pos h2, ← h2]
        exact hu
      · rw [if_neg h2, if_pos hq]
        exact hu
theorem users_step {l : List Ent} (h : Srt l) (hg : ∀ e ∈ l, EntGood e) (hk : ∀ x ∈ l, x.k = 1 ∨ x.k = 2) (at_ : Int) (n : Nat) (hn : n < l.length) :
    usersE l at_ (n + 1) = if (l.getD n ent0).u ≠ toldE l at_ n ∧ (l.getD n ent0).q ≤ at_ ∧ (l.getD n ent0).k ≠ 2 then usersE l at_ n ++ [(l.getD n ent0).u] else usersE l at_ n := by
  have hm := getD_memE l n hn
  have hk1 := hk _ hm
  have hu1 := (hg _ hm).1
  have hb := bestI_srt h (l.getD n ent0).u at_ l.length (Nat.le_refl _)
  have e0 : usersE l at_ (n + 1) = if getE l (l.getD n ent0).u at_ = (n : Int) ∧ (l.getD n ent0).k = 1 then usersE l at_ n ++ [(l.getD n ent0).u] else usersE l at_ n := rfl
  rw [e0]
  have key : (getE l (l.getD n ent0).u at_ = (n : Int)) ↔ ((l.getD n ent0).u ≠ toldE l at_ n ∧ (l.getD n ent0).q ≤ at_) := by
    unfold getE
    constructor
    · intro hge
      rcases hb with ⟨h1, _⟩ | ⟨j, hj, h1, h2, h3⟩
      · omega
      · have : j = n := by omega
        subst this
        unfold sees at h2
        rw [Bool.and_eq_true, decide_eq_true_eq, decide_eq_true_eq] at h2
        refine ⟨fun ht => ?_, h2.2⟩
        rcases toldE_one l at_ j (by omega) with h4 | ⟨i, hi, h4, h5⟩
        · rw [ht, h4] at hu1
          exact absurd hu1 (by decide)
        · have := h3 i hi
          unfold sees at this
          rw [h4, ← ht, decide_eq_true rfl, decide_eq_true h5] at this
          cases this
    · rintro ⟨ht, hq⟩
      have hs : sees (l.getD n ent0).u at_ (l.getD n ent0) = true := by
        unfold sees
        rw [decide_eq_true rfl, decide_eq_true hq]
        rfl
      rcases hb with ⟨_, h1⟩ | ⟨j, hj, h1, h2, h3⟩
      · have := h1 n hn
        rw [hs] at this
        cases this
      · rcases Nat.lt_trichotomy j n with h4 | h4 | h4
        · exfalso
          unfold sees at h2
          rw [Bool.and_eq_true, decide_eq_true_eq, decide_eq_true_eq] at h2
          exact ht (toldE_two h at_ n j n h4 (Nat.le_refl _) hn h2.2 h2.1).symm
        · rw [h1, h4]
        · have := h3 n h4
          rw [hs] at this
          cases this
  by_cases hc : (l.getD n ent0).u ≠ toldE l at_ n ∧ (l.getD n ent0).q ≤ at_
  · by_cases hk2 : (l.getD n ent0).k = 2
    · rw [if_neg (fun h => absurd (h.2.symm.trans hk2) (by decide)), if_neg (fun h => h.2.2 hk2)]
    · rw [if_pos ⟨key.2 hc, hk1.resolve_right hk2⟩, if_pos ⟨hc.1, hc.2, hk2⟩]
  · rw [if_neg (fun h => hc (key.1 h.1)), if_neg (fun h => hc ⟨h.1, h.2.1⟩)]
set_option maxRecDepth 20000 in
set_option maxHeartbeats 3200000 in
theorem tusers_c (w : World) (t : Nat) (F : Nat → Prop) (m : Mt) (at_ : Int) (H : Dm w t F m) (hl : m.es.length ≤ 100000) (hat : (Lit.int .i64 at_).wf = true) : Calls Try.prog 16 #[.pointer (some ⟨t, 0, none⟩), .int .i64 at_] w (NewStrs (usersE m.es at_ m.es.length) w) := by
  have HE := Lib.hid (tentries_c w t F m H hl)
  obtain ⟨sb, hb, hs, mb, ns, hT, hF, hsr, hgd⟩ := H
  obtain ⟨es, hes⟩ : ∃ es, m.es = es := ⟨_, rfl⟩
  have HST := Lib.hid (fun n (hn : n < m.es.length) => users_step hT.srt hT.good hgd.2 at_ n hn)
  have HUL := Lib.hid (usersE_len m.es at_)
  rw [hes] at HE HST HUL hl ⊢
  obtain ⟨n, hn⟩ : ∃ n, es.length = n := ⟨_, rfl⟩
  have HN := Lib.hid hn
  rw [hn] at HST hl ⊢
  clear hT hF hsr hgd hes hn
  go_enter Try.func16, Try.ntmps16
  go_wp2_with fail
  refine (show Calls _ _ _ _ _ from HE.out).mono ?_
  rintro e w1 ⟨v1, rfl, hr1, hf1⟩
  obtain ⟨ea, ec, rfl, k1, k2, hents⟩ := hr1.ents
  rw [HN.out] at k1 ⊢
  have HEN := Lib.hid hents
  have HF1 := Lib.hid hf1
  clear hr1 hf1 hents HE
  go_wp2_with fail
  go_loopw [5, 6, 12] (fun vo vt i wr => ∃ (j k : Nat), vt = .string (toldE es at_ j) ∧ i = .int .i64 (j : Int) ∧ j ≤ n ∧ (usersE es at_ j).length = k ∧ RowG wr (Gr No w1 wr) 9 1 vo k (strsC (usersE es at_ j)) ∧ Fr No w1 wr) (fun _ _ i _ => n - (intOf i).toNat)
  case atStart => exact ⟨0, 0, rfl, rfl, Nat.zero_le _, rfl, RowG.nil _ _ _ _, Fr.refl _ _⟩
  case round =>
    obtain ⟨j, k, rfl, rfl, hj, hk, hrow, hfr⟩ := hrel
    obtain ⟨va, vc, rfl, _, _, _, _⟩ := hrow.form
    have HK := Lib.hid hk
    have HR := Lib.hid hrow
    have HF := Lib.hid hfr
    have hkb : k ≤ 100000 := by have := HUL.out j; omega
    clear hrow hk
    by_cases hlt : j < n
    · have hjl : j < es.length := by rw [HN.out]; exact hlt
      have HS := Lib.hid (HST.out j hlt)
      obtain ⟨b, o, _, rfl, hxs⟩ := HEN.out (by omega)
      have hy := (hxs j hjl).keep hfr (fun h => h)
      obtain ⟨y, hy0⟩ : ∃ y, es.getD j ent0 = y := ⟨_, rfl⟩
      rw [hy0] at hy HS
      obtain ⟨c0, c1, c2, c3⟩ := hy
      obtain ⟨told, htold⟩ : ∃ told, toldE es at_ j = told := ⟨_, rfl⟩
      have HTA : Hid (y.u = told → toldE es at_ (j + 1) = told) := Lib.hid fun h => by
        unfold toldE
        rw [hy0, htold, if_pos h]
      have HTB : Hid (y.u ≠ told → y.q ≤ at_ → toldE es at_ (j + 1) = y.u) := Lib.hid fun h h2 => by
        unfold toldE
        rw [hy0, htold, if_neg h, if_pos h2]
      have HTC : Hid (y.u ≠ told → ¬ y.q ≤ at_ → toldE es at_ (j + 1) = told) := Lib.hid fun h (h2 : ¬ y.q ≤ at_) => by
        unfold toldE
        rw [hy0, htold, if_neg h, if_neg h2]
      rw [htold] at HS ⊢
      obtain ⟨Wb, hWb, hfb, p0, p1, p2, p3⟩ : ∃ W, wr.alloc (.cells #[.string y.u, .int .i64 y.q, .int .i64 y.k, .string y.val] 39) = W ∧ Fr No wr W ∧ W.cell? ⟨wr.heap.size, 0, none⟩ = some (.string y.u) ∧ W.cell? ⟨wr.heap.size, 1, none⟩ = some (.int .i64 y.q) ∧ W.cell? ⟨wr.heap.size, 2, none⟩ = some (.int .i64 y.k) ∧ W.cell? ⟨wr.heap.size, 3, none⟩ = some (.string y.val) := by
        obtain ⟨W, h1, h2, h3⟩ := box_ent wr y 39
        exact ⟨W, h1, h2, h3.c0, h3.c1, h3.c2, h3.c3⟩
      have HWB := Lib.hid hWb
      have HFB := Lib.hid (hfr.trans hfb)
      have HRB := Lib.hid (HR.out.growE hfb)
      have HSE := Lib.hid (fun w' => sees_c y.u y.q y.k at_ w')
      clear hxs hfr hWb hfb hy0 htold
      by_cases hu : y.u = told
      · have d1 : (y.u.toList == told.toList) = true := by rw [hu]; simp
        have HREL : Hid (usersE es at_ (j + 1) = usersE es at_ j ∧ toldE es at_ (j + 1) = told) := Lib.hid ⟨by rw [HS.out, if_neg (fun h => h.1 hu)], HTA.out hu⟩
        clear hu
        go_wp2_with fail
        rw [HWB.out]
        go_roundw
        case rel => exact ⟨j + 1, k, by rw [HREL.out.2], by simp, by omega, by rw [HREL.out.1]; exact HK.out, by rw [HREL.out.1]; exact HRB.out, HFB.out⟩
        case measure => simp [intOf]; omega
      · have d1 : (y.u.toList == told.toList) = false := (beqS _ _).trans (decide_eq_false hu)
        go_wp2_with fail
        rw [HWB.out]
        refine (show Calls _ _ _ _ _ from HSE.out _).mono ?_
        rintro e w5 ⟨rfl, hf5⟩
        have HF5 := Lib.hid (HFB.out.trans hf5)
        have HR5 := Lib.hid (HRB.out.growE hf5)
        have p0 := hf5.cell p0 (fun h => h)
        have p2 := hf5.cell p2 (fun h => h)
        clear hf5 p1 p3 c0 c1 c2 c3
        by_cases hq : y.q ≤ at_
        · have d2 : decide (y.q ≤ at_) = true := decide_eq_true hq
          by_cases hk2 : y.k = 2
          · have d3 : (y.k != 2) = false := by rw [hk2]; rfl
            have HREL : Hid (usersE es at_ (j + 1) = usersE es at_ j ∧ toldE es at_ (j + 1) = y.u) := Lib.hid ⟨by rw [HS.out, if_neg (fun h => h.2.2 hk2)], HTB.out hu hq⟩
            clear hu hq hk2
            go_wp2_with fail
            go_roundw
            case rel => exact ⟨j + 1, k, by rw [HREL.out.2], by simp, by omega, by rw [HREL.out.1]; exact HK.out, by rw [HREL.out.1]; exact HR5.out, HF5.out⟩
            case measure => simp [intOf]; omega
          · have d3 : (y.k != 2) = true := by simpa using hk2
            have HREL : Hid (usersE es at_ (j + 1) = usersE es at_ j ++ [y.u] ∧ toldE es at_ (j + 1) = y.u) := Lib.hid ⟨by rw [HS.out, if_pos ⟨hu, hq, hk2⟩], HTB.out hu hq⟩
            obtain ⟨v', w', hrun, hrow', hfr'⟩ := push_str w1 w5 _ k _ y.u HK.out HR5.out HF5.out (by omega)
            obtain ⟨va', vc', rfl, _, _, _, _⟩ := hrow'.form
            have HRUN := Lib.hid hrun
            have HR6 := Lib.hid hrow'
            have HF6 := Lib.hid hfr'
            have HK6 : Hid ((usersE es at_ j ++ [y.u]).length = k + 1) := Lib.hid (by rw [List.length_append, HK.out]; rfl)
            clear hu hq hk2 hrun hrow' hfr'
            go_wp2_with (at_builtin; refine wpList_append_run rfl _ _ 46 rfl rfl rfl HRUN.out ?_)
            go_roundw
            case rel => exact ⟨j + 1, k + 1, by rw [HREL.out.2], by simp, by omega, by rw [HREL.out.1]; exact HK6.out, by rw [HREL.out.1]; exact HR6.out, HF6.out⟩
            case measure => simp [intOf]; omega
        · have d2 : decide (y.q ≤ at_) = false := decide_eq_false hq
          have HREL : Hid (usersE es at_ (j + 1) = usersE es at_ j ∧ toldE es at_ (j + 1) = told) := Lib.hid ⟨by rw [HS.out, if_neg (fun h => hq h.2.1)], HTC.out hu (by omega)⟩
          clear hu hq
          go_wp2_with fail
          go_roundw
          case rel => exact ⟨j + 1, k, by rw [HREL.out.2], by simp, by omega, by rw [HREL.out.1]; exact HK.out, by rw [HREL.out.1]; exact HR5.out, HF5.out⟩
          case measure => simp [intOf]; omega
    · have hj' : j = n := by omega
      subst hj'
      clear hfr
      go_wp2_with fail
      go_ret
      refine ⟨_, rfl, ?_, HF1.out.trans HF.out⟩
      rw [HK.out]
      refine HR.out.sub fun b _ h => ?_
      rcases h with h | h
      · exact absurd h (fun h => h)
      · exact .inr ⟨Nat.le_trans HF1.out.size h.1, h.2⟩
end Go.Proofs.Ytggjkpgkmohmdaa
