/-
  Layer 11, the program's own: Get.
-/
import Derived.Test.YtggjkpgkmohmdaaMmB
import Derived.Test.YtggjkpgkmohmdaaIkS
import Derived.Test.YtggjkpgkmohmdaaMemB
namespace Go.Proofs.Ytggjkpgkmohmdaa
set_option linter.unusedVariables false
open Go.RowKit

/-- What is sought. -/
def seekE (u : ByteArray) (a : Int) : Ent := ⟨u, a, 3, ByteArray.empty⟩
theorem seek_sees {e : Ent} (hg : EntGood e) (u : ByteArray) (at_ : Int) : sees u at_ e = true ↔ (e.u = u ∧ ¬ cmpE e (seekE u (min at_ 1099511627776)) < 0) := by
  obtain ⟨g1, g2, g3, g4, g5, g6, g7⟩ := hg
  unfold sees
  rw [Bool.and_eq_true, decide_eq_true_eq, decide_eq_true_eq]
  refine and_congr_right fun hu => ?_
  subst hu
  have e1 : cmpE e (seekE e.u (min at_ 1099511627776)) = orI (cmpI (min at_ 1099511627776) e.q) (cmpI 3 e.k) 0 := cmpK_same _ _ _ _ _
  rw [e1]
  have hm : min at_ 1099511627776 = if at_ ≤ 1099511627776 then at_ else 1099511627776 := by omega
  rw [hm]
  rcases cmpI_cases (if at_ ≤ 1099511627776 then at_ else 1099511627776) e.q with ⟨h, hc⟩ | ⟨h, h', hc⟩ | ⟨h, hc⟩ <;> rcases cmpI_cases 3 e.k with ⟨k, kc⟩ | ⟨k, k', kc⟩ | ⟨k, kc⟩ <;> rw [hc, kc] <;> unfold orI <;> split at h <;> simp <;> omega
theorem get_seek {es : List Ent} (hs : Srt es) (hg : ∀ e ∈ es, EntGood e) (u : ByteArray) (at_ : Int) :
    (es.find? (fun e => !decide (cmpE e (seekE u (min at_ 1099511627776)) < 0)) = none → getE es u at_ = -1) ∧
    ∀ e, es.find? (fun e => !decide (cmpE e (seekE u (min at_ 1099511627776)) < 0)) = some e → e ∈ es ∧ (e.u ≠ u → getE es u at_ = -1) ∧ (e.u = u → ∃ j : Nat, getE es u at_ = (j : Int) ∧ es.getD j ent0 = e) := by
  refine ⟨fun h => ?_, fun e h => ?_⟩
  · rw [List.find?_eq_none] at h
    rcases getE_srt hs u at_ with ⟨h1, _⟩ | ⟨j, hj, h1, h2, _⟩
    · exact h1
    · have hm := getD_memE es j hj
      have := ((seek_sees (hg _ hm) u at_).1 h2).2
      have h3 := h _ hm
      simp only [Bool.not_eq_true', decide_eq_false_iff_not] at h3
      exact absurd this h3
  · obtain ⟨hp, i, hi, rfl, hbef⟩ := List.find?_eq_some_iff_getElem.1 h
    have hm : es[i] ∈ es := List.getElem_mem hi
    have hpw := List.pairwise_iff_getElem.1 hs
    have hp : ¬ cmpE es[i] (seekE u (min at_ 1099511627776)) < 0 := by simpa using hp
    have hbef : ∀ j (hj : j < i), cmpE (es[j]'(by omega)) (seekE u (min at_ 1099511627776)) < 0 := fun j hj => by simpa using hbef j hj
    refine ⟨hm, fun hu => ?_, fun hu => ?_⟩
    · rcases getE_srt hs u at_ with ⟨h1, _⟩ | ⟨j, hj, h1, h2, _⟩
      · exact h1
      · exfalso
        rw [getD_ent es j hj] at h2
        obtain ⟨hu', h3⟩ := (seek_sees (hg _ (List.getElem_mem hj)) u at_).1 h2
        have hij : i < j := by
          rcases Nat.lt_trichotomy i j with h4 | h4 | h4
          · exact h4
          · subst h4
            exact absurd hu' hu
          · exact absurd (hbef j h4) h3
        have h4 := hpw i j hi hj hij
        have n1 : es[i].u.data.toList ≠ u.data.toList := fun e => hu (ba_inj e)
        have e1 : cmpE es[i] (seekE u (min at_ 1099511627776)) = cmpB es[i].u.data.toList u.data.toList := cmpK_other n1 _ _ _ _
        have e2 : cmpE es[i] es[j] = cmpB es[i].u.data.toList u.data.toList := by
          have := cmpK_other (u' := es[j].u.data.toList) (by rw [hu']; exact n1) es[i].q es[i].k es[j].q es[j].k
          rw [hu'] at this
          unfold cmpE
          rw [hu']
          exact this
        omega
    · rcases getE_srt hs u at_ with ⟨_, h1⟩ | ⟨j, hj, h1, h2, h3⟩
      · have := h1 _ hm
        rw [(seek_sees (hg _ hm) u at_).2 ⟨hu, hp⟩] at this
        cases this
      · refine ⟨j, h1, ?_⟩
        have h4 := h3 _ hm ((seek_sees (hg _ hm) u at_).2 ⟨hu, hp⟩)
        rw [getD_ent es j hj] at h2 h4 ⊢
        have h5 := ((seek_sees (hg _ (List.getElem_mem hj)) u at_).1 h2).2
        rcases Nat.lt_trichotomy i j with h6 | h6 | h6
        · have := hpw i j hi hj h6
          have := cmpE_neg es[i] es[j]
          omega
        · subst h6
          rfl
        · exact absurd (hbef j h6) h5
theorem getE_no {es : List Ent} (hs : Srt es) (hg : ∀ e ∈ es, EntGood e) (u : ByteArray) (at_ : Int) (h : ¬ Rt u.size (min at_ 1099511627776) 3) : getE es u at_ = -1 := by
  rcases getE_srt hs u at_ with ⟨h1, _⟩ | ⟨j, hj, h1, h2, _⟩
  · exact h1
  · exfalso
    obtain ⟨g1, g2, g3, g4, g5, g6, g7⟩ := hg _ (getD_memE es j hj)
    unfold sees at h2
    rw [Bool.and_eq_true, decide_eq_true_eq, decide_eq_true_eq] at h2
    rw [h2.1] at g1 g2
    exact h ⟨by omega, by omega, by omega, by omega, by omega, by omega⟩
/-- The nodes and the entries find alike. -/
theorem find_txt {es : List Ent} {ns : List KU.N2} (hg : ∀ e ∈ es, EntGood e) (hk : ns.map (·.k) = es.map txt) {s : Ent} (hs : EntGood s) :
    (ceilN ltS ns (txt s)).map (·.k) = (es.find? (fun e => !decide (cmpE e s < 0))).map txt := by
  unfold ceilN
  have h1 := List.find?_map (p := fun z => !ltS z (txt s)) (f := fun y : KU.N2 => y.k) (l := ns)
  have h2 := List.find?_map (p := fun z => !ltS z (txt s)) (f := txt) (l := es)
  rw [hk, h2] at h1
  have e1 : ((fun z => !ltS z (txt s)) ∘ fun y : KU.N2 => y.k) = fun y : KU.N2 => !ltS y.k (txt s) := rfl
  rw [e1] at h1
  rw [← h1]
  congr 1
  refine find_congr' fun x hx => ?_
  show (!ltS (txt x) (txt s)) = _
  rw [txt_lt (hg x hx) hs]
theorem get_results (tmps : Array Value) (w : World) (g : Nat) (x y z v e : Value) (hp : tmps.getD 6 undef = .pointer (some ⟨g, 0, none⟩)) (he : tmps.getD 7 undef = e) (hg : At w g 39 #[x, y, z, v]) :
    (results Try.f13 tmps).run Try.prog w = .ok (.tuple #[.agg #[x, y, z, v], e]) w := by
  have hi : (Try.prog.info? 39).map (·.size) = some 4 := by kernel_rfl
  have hp' : tmps[6]?.getD undef = .pointer (some ⟨g, 0, none⟩) := by simpa using hp
  have he' : tmps[7]?.getD undef = e := by simpa using he
  have hl := run_loadVar_row (P := Try.prog) w g 39 39 #[x, y, z, v] (0, 0) _ hg Try.underlying39 rfl hi
  simp [results, Try.results13, hp', he', asAddr, hl]
theorem fieldE0 (u v : ByteArray) (q k : Int) (w : World) : (Instr.field 39 (.agg #[.string u, .int .i64 q, .int .i64 k, .string v]) 0).run Try.prog w = .ok (.agg #[.string u, .int .i64 q, .int .i64 k]) w := by kernel_rfl
theorem fieldK0 (u : ByteArray) (q k : Int) (w : World) : (Instr.field 37 (.agg #[.string u, .int .i64 q, .int .i64 k]) 0).run Try.prog w = .ok (.string u) w := by kernel_rfl
set_option maxRecDepth 20000 in
set_option maxHeartbeats 3200000 in
theorem tget_c (w : World) (t : Nat) (F : Nat → Prop) (m : Mt) (u : ByteArray) (at_ : Int) (H : Dm w t F m) (hu : u.size ≤ maxLen) (hat : (Lit.int .i64 at_).wf = true) :
    Calls Try.prog 13 #[.pointer (some ⟨t, 0, none⟩), .string u, .int .i64 at_] w (Ask (.tuple #[entV (entAt m (getE m.es u at_)), .bool (decide (0 ≤ getE m.es u at_))]) w) := by
  obtain ⟨sb, hb, hs, mb, ns, hT, hF, hsr, hgd⟩ := H
  have hR := getE_no hT.srt hT.good u at_
  have hSK := get_seek hT.srt hT.good u at_
  obtain ⟨G, hG⟩ : ∃ G, getE m.es u at_ = G := ⟨_, rfl⟩
  rw [hG] at hR hSK ⊢
  obtain ⟨a', ha'⟩ : ∃ a', min at_ 1099511627776 = a' := ⟨_, rfl⟩
  rw [ha'] at hR hSK
  have hawf := wf_10 hat
  obtain ⟨W, hW⟩ : ∃ W, w.alloc (.cells #[.string ⟨#[]⟩, .int .i64 0, .int .i64 0, .string ⟨#[]⟩] 39) = W := ⟨_, rfl⟩
  have hfW : Fr No w W := by rw [← hW]; exact (Fr.refl No w).alloc _
  have A6 : At W w.heap.size 39 #[.string ⟨#[]⟩, .int .i64 0, .int .i64 0, .string ⟨#[]⟩] := by rw [← hW]; exact At.new w _ _
  obtain ⟨B, hB⟩ : ∃ B, w.heap.size = B := ⟨_, rfl⟩
  rw [hB] at A6
  have HT := Lib.hid (hT.keep hfW (fun _ _ h => h))
  have HB := Lib.hid hB
  have HW := Lib.hid hW
  have HFW := Lib.hid hfW
  have HA6 := Lib.hid A6
  have HSE := Lib.hid (seek_c u a' W)
  have HSK := Lib.hid hSK
  have HR := Lib.hid hR
  have HG := Lib.hid hG
  clear hT hF hsr hgd hfW A6 hB hSK hR hG hat hW
  go_enter Try.func13, Try.ntmps13
  go_wp2_with fail
  rw [HW.out, HB.out]
  refine (show Calls _ _ _ _ _ from HSE.out).mono ?_
  rintro e w1 ⟨rfl, hf1⟩
  have HF1 := Lib.hid hf1
  clear hf1 ha'
  by_cases hRt : Rt u.size a' 3
  · have HC := Lib.hid (bytes_yes u a' 3 w1 hRt)
    have HSG : Hid (EntGood (seekE u a')) := Lib.hid (by
      obtain ⟨r1, r2, r3, r4, r5, r6⟩ := hRt
      exact ⟨by show 1 ≤ u.size; omega, by show u.size ≤ 64; omega, r3, r4, r5, r6, by show ByteArray.empty.size ≤ 4096; simp⟩)
    have htx : strOf (encK u.data.toList a' 3) = txt (seekE u a') := rfl
    obtain ⟨L, hL⟩ : ∃ L, encK u.data.toList a' 3 = L := ⟨_, rfl⟩
    rw [hL] at HC htx
    have HTX := Lib.hid htx
    clear hL htx hRt
    go_wp2_with fail
    refine (show Calls _ _ _ _ _ from HC.out).mono ?_
    rintro e w2 ⟨a2, c2, rfl, hr2, hf2⟩
    have hrd : Rd w2 a2 L := by
      obtain ⟨a', c', e, _, _, hin⟩ := hr2.form
      cases e
      exact hin.rd
    have HRD := Lib.hid hrd
    have HF2 := Lib.hid (HF1.out.trans hf2)
    have HT2 := Lib.hid (HT.out.keep HF2.out (fun _ _ h => h))
    have t0 := HT2.out.tb.cell 0
    have t1 := HT2.out.tb.cell 1
    simp at t0 t1
    have HCV : Hid (∀ W, Fr No w2 W → (convert 66 9 (.slice a2 L.length c2)).run Try.prog W = .ok (.string (txt (seekE u a'))) W) := Lib.hid fun W f => by
      rw [← HTX.out]
      exact conv_rd W a2 L.length c2 L rfl (hrd.below (f.below (Nat.le_refl _) (fun _ h => absurd h (fun h => h))) (Nat.le_refl _))
    have hcv := HCV.out w2.drew (Fr.refl No w2).drew
    have hcv2 := HCV.out (w2.alloc (.cells #[] 74)).drew ((Fr.refl No w2).alloc _).drew
    have ta0 := ((Fr.refl No w2).alloc (.cells #[] 74)).drew.cell (p := ⟨t, 0, none⟩) t0 (fun h => h)
    have ta1 := ((Fr.refl No w2).alloc (.cells #[] 74)).drew.cell (p := ⟨t, 1, none⟩) t1 (fun h => h)
    clear hr2 hf2 hrd HC
    have HCE := Lib.hid (fun w' (f : Fr No w2 w') => KU.ceilT_c sb hb hs ns (txt (seekE u a')) w' (HT2.out.sk.keep f (fun _ _ h => h)))
    have HCN : Hid ((ceilN ltS ns (txt (seekE u a'))).map (·.k) = (m.es.find? (fun e => !decide (cmpE e (seekE u a') < 0))).map txt) := Lib.hid (find_txt HT2.out.good HT2.out.ks HSG.out)
    cases hce : ceilN ltS ns (txt (seekE u a')) with
    | none =>
      rw [hce] at HCN HCE
      rw [show KU.tellV (none : Option KU.N2) = .tuple #[.string ⟨#[]⟩, .agg #[], .bool false] from rfl] at HCE
      have HN : Hid (G = -1) := Lib.hid (HSK.out.1 (by
        have := HCN.out
        cases hf : m.es.find? (fun e => !decide (cmpE e (seekE u a') < 0)) with
        | none => rfl
        | some z => rw [hf] at this; cases this))
      clear hce HCN
      go_wp2_with fail
      go_region_held3 (fun w' => w'.cell? ⟨t, 0, none⟩ = some (.pointer (some ⟨sb, 0, none⟩)) ∧ w'.cell? ⟨t, 1, none⟩ = some (.map (some mb)) ∧ (convert 66 9 (.slice a2 L.length c2)).run Try.prog w' = .ok (.string (txt (seekE u a'))) w') (first | (with_reducible assumption) | exact ⟨t0, t1, hcv⟩ | exact ⟨t0, t1, hcv3⟩ | exact ⟨ta0, ta1, hcv2⟩ | exact ⟨tb0, tb1, hcv4⟩)
        (first
          | (go_at_call 30; refine (HCE.out _ (Fr.drew (Fr.refl _ _))).mono ?_; intro e w3 hret; obtain ⟨rfl, hf3⟩ := hret
             have HF3 : Hid (Fr No w2 w3) := Lib.hid (Fr.trans (Fr.drew (Fr.refl _ _)) hf3)
             have t0 := HF3.out.cell (p := ⟨t, 0, none⟩) t0 (fun h => h)
             have t1 := HF3.out.cell (p := ⟨t, 1, none⟩) t1 (fun h => h)
             have hcv3 := HCV.out w3 HF3.out
             have hcv4 := HCV.out (w3.alloc (.cells #[] 74)) (HF3.out.alloc _)
             have tb0 := ((Fr.refl No w3).alloc (.cells #[] 74)).cell (p := ⟨t, 0, none⟩) t0 (fun h => h)
             have tb1 := ((Fr.refl No w3).alloc (.cells #[] 74)).cell (p := ⟨t, 1, none⟩) t1 (fun h => h)
             clear hf3)
          | (go_at_call 30; refine (HCE.out _ (Fr.drew (Fr.alloc (Fr.refl _ _) _))).mono ?_; intro e w3 hret; obtain ⟨rfl, hf3⟩ := hret
             have HF3 : Hid (Fr No w2 w3) := Lib.hid (Fr.trans (Fr.drew (Fr.alloc (Fr.refl _ _) _)) hf3)
             have t0 := HF3.out.cell (p := ⟨t, 0, none⟩) t0 (fun h => h)
             have t1 := HF3.out.cell (p := ⟨t, 1, none⟩) t1 (fun h => h)
             have hcv3 := HCV.out w3 HF3.out
             have hcv4 := HCV.out (w3.alloc (.cells #[] 74)) (HF3.out.alloc _)
             have tb0 := ((Fr.refl No w3).alloc (.cells #[] 74)).cell (p := ⟨t, 0, none⟩) t0 (fun h => h)
             have tb1 := ((Fr.refl No w3).alloc (.cells #[] 74)).cell (p := ⟨t, 1, none⟩) t1 (fun h => h)
             clear hf3))
      all_goals
        first
          | (have hh : (w3.alloc (.cells #[] 74)).cell? ⟨t, 0, none⟩ = some (.pointer (some ⟨sb, 0, none⟩)) ∧ (w3.alloc (.cells #[] 74)).cell? ⟨t, 1, none⟩ = some (.map (some mb)) := ⟨tb0, tb1⟩
             obtain ⟨W5, hW5⟩ : ∃ W5, w3.alloc (.cells #[] 74) = W5 := ⟨_, rfl⟩
             rw [hW5] at hh ⊢
             have HF5 : Hid (Fr No w2 W5) := Lib.hid (by rw [← hW5]; exact HF3.out.alloc _)
             clear hW5 t0 t1)
          | (have hh : w3.cell? ⟨t, 0, none⟩ = some (.pointer (some ⟨sb, 0, none⟩)) ∧ w3.cell? ⟨t, 1, none⟩ = some (.map (some mb)) := ⟨t0, t1⟩
             clear t0 t1
             have HF5 := HF3
             generalize w3 = W5 at *)
        clear hcv hcv2
        obtain ⟨t0, t1⟩ := hh
        have HA5 := Lib.hid (HA6.out.keep (HF2.out.trans HF5.out) (fun h => h))
        obtain ⟨x0, x1, x2, x3, y0, y1, y2, y3⟩ := HA5.out.row4
        have HFE := Lib.hid (HFW.out.trans (HF2.out.trans HF5.out))
        go_wp2_with fail
        refine bodyPost_ret (get_results _ _ B _ _ _ _ _ rfl rfl HA5.out.put4) rfl ?_
        rw [HN.out]
        exact ⟨rfl, put4_fr HFE.out (by rw [HB.out]; exact Nat.le_refl _)⟩
    | some y =>
      rw [hce] at HCN HCE
      have hcn := HCN.out
      cases hf : m.es.find? (fun e => !decide (cmpE e (seekE u a') < 0)) with
      | none => rw [hf] at hcn; cases hcn
      | some e =>
      rw [hf] at hcn
      have hyk : y.k = txt e := by
        have : some y.k = some (txt e) := hcn
        injection this
      rw [show KU.tellV (some y) = .tuple #[.string y.k, .agg #[], .bool true] from rfl, hyk] at HCE
      obtain ⟨hem, hno, hyes⟩ := HSK.out.2 e hf
      have hge := HT2.out.good e hem
      have HLK : Hid (∀ W', Fr No w2 W' → (Instr.lookup 69 (.map (some mb)) (.string (txt e)) false).run Try.prog W' = .ok (.agg #[.string e.u, .int .i64 e.q, .int .i64 e.k, .string e.val]) W') := Lib.hid fun W' f => (HT2.out.mp.keep f (fun h => h)).look hem hge
      have HNO := Lib.hid hno
      have HYES := Lib.hid hyes
      clear hce HCN hcn hf hyk hem hno hyes hge
      go_wp2_with fail
      go_region_held3 (fun w' => w'.cell? ⟨t, 0, none⟩ = some (.pointer (some ⟨sb, 0, none⟩)) ∧ w'.cell? ⟨t, 1, none⟩ = some (.map (some mb)) ∧ (convert 66 9 (.slice a2 L.length c2)).run Try.prog w' = .ok (.string (txt (seekE u a'))) w') (first | (with_reducible assumption) | exact ⟨t0, t1, hcv⟩ | exact ⟨t0, t1, hcv3⟩ | exact ⟨ta0, ta1, hcv2⟩ | exact ⟨tb0, tb1, hcv4⟩)
        (first
          | (go_at_call 30; refine (HCE.out _ (Fr.drew (Fr.refl _ _))).mono ?_; intro e' w3 hret; obtain ⟨rfl, hf3⟩ := hret
             have HF3 : Hid (Fr No w2 w3) := Lib.hid (Fr.trans (Fr.drew (Fr.refl _ _)) hf3)
             have t0 := HF3.out.cell (p := ⟨t, 0, none⟩) t0 (fun h => h)
             have t1 := HF3.out.cell (p := ⟨t, 1, none⟩) t1 (fun h => h)
             have hcv3 := HCV.out w3 HF3.out
             have hcv4 := HCV.out (w3.alloc (.cells #[] 74)) (HF3.out.alloc _)
             have tb0 := ((Fr.refl No w3).alloc (.cells #[] 74)).cell (p := ⟨t, 0, none⟩) t0 (fun h => h)
             have tb1 := ((Fr.refl No w3).alloc (.cells #[] 74)).cell (p := ⟨t, 1, none⟩) t1 (fun h => h)
             clear hf3)
          | (go_at_call 30; refine (HCE.out _ (Fr.drew (Fr.alloc (Fr.refl _ _) _))).mono ?_; intro e' w3 hret; obtain ⟨rfl, hf3⟩ := hret
             have HF3 : Hid (Fr No w2 w3) := Lib.hid (Fr.trans (Fr.drew (Fr.alloc (Fr.refl _ _) _)) hf3)
             have t0 := HF3.out.cell (p := ⟨t, 0, none⟩) t0 (fun h => h)
             have t1 := HF3.out.cell (p := ⟨t, 1, none⟩) t1 (fun h => h)
             have hcv3 := HCV.out w3 HF3.out
             have hcv4 := HCV.out (w3.alloc (.cells #[] 74)) (HF3.out.alloc _)
             have tb0 := ((Fr.refl No w3).alloc (.cells #[] 74)).cell (p := ⟨t, 0, none⟩) t0 (fun h => h)
             have tb1 := ((Fr.refl No w3).alloc (.cells #[] 74)).cell (p := ⟨t, 1, none⟩) t1 (fun h => h)
             clear hf3))
      all_goals
        first
          | (have hh : (w3.alloc (.cells #[] 74)).cell? ⟨t, 0, none⟩ = some (.pointer (some ⟨sb, 0, none⟩)) ∧ (w3.alloc (.cells #[] 74)).cell? ⟨t, 1, none⟩ = some (.map (some mb)) := ⟨tb0, tb1⟩
             obtain ⟨W5, hW5⟩ : ∃ W5, w3.alloc (.cells #[] 74) = W5 := ⟨_, rfl⟩
             rw [hW5] at hh ⊢
             have HF5 : Hid (Fr No w2 W5) := Lib.hid (by rw [← hW5]; exact HF3.out.alloc _)
             clear hW5 t0 t1)
          | (have hh : w3.cell? ⟨t, 0, none⟩ = some (.pointer (some ⟨sb, 0, none⟩)) ∧ w3.cell? ⟨t, 1, none⟩ = some (.map (some mb)) := ⟨t0, t1⟩
             clear t0 t1
             have HF5 := HF3
             generalize w3 = W5 at *)
        clear hcv hcv2
        obtain ⟨t0, t1⟩ := hh
        have HA5 := Lib.hid (HA6.out.keep (HF2.out.trans HF5.out) (fun h => h))
        obtain ⟨x0, x1, x2, x3, y0, y1, y2, y3⟩ := HA5.out.row4
        have HFE := Lib.hid (HFW.out.trans (HF2.out.trans HF5.out))
        have hlk := HLK.out W5 HF5.out
        have hfd := fieldE0 e.u e.val e.q e.k W5
        have hfk := fieldK0 e.u e.q e.k W5
        by_cases hu2 : e.u = u
        · have d1 : (e.u.toList == u.toList) = true := by rw [hu2]; simp
          obtain ⟨j, hj, hje⟩ := HYES.out hu2
          have HJ := Lib.hid hj
          have HJE := Lib.hid hje
          clear hu2 hj hje
          go_wp2_with fail
          refine bodyPost_ret (get_results _ _ B _ _ _ _ _ rfl rfl HA5.out.put4) rfl ?_
          refine ⟨?_, put4_fr HFE.out (by rw [HB.out]; exact Nat.le_refl _)⟩
          rw [HJ.out]
          have e1 : entAt m (j : Int) = e := by
            unfold entAt
            rw [if_neg (by omega), Int.toNat_natCast]
            exact HJE.out
          rw [e1, decide_eq_true (by omega : (0 : Int) ≤ (j : Int))]
          rfl
        · have d1 : (e.u.toList == u.toList) = false := (beqS _ _).trans (decide_eq_false hu2)
          have HN := Lib.hid (HNO.out hu2)
          clear hu2
          go_wp2_with fail
          refine bodyPost_ret (get_results _ _ B _ _ _ _ _ rfl rfl HA5.out.put4) rfl ?_
          rw [HN.out]
          exact ⟨rfl, put4_fr HFE.out (by rw [HB.out]; exact Nat.le_refl _)⟩
  · have HC := Lib.hid (bytes_no u a' 3 w1 hRt)
    have HN := Lib.hid (HR.out hRt)
    clear hRt
    go_wp2_with fail
    refine (show Calls _ _ _ _ _ from HC.out).mono ?_
    rintro e w2 ⟨rfl, hf2⟩
    have HF2 := Lib.hid (HF1.out.trans hf2)
    have HA2 := Lib.hid (HA6.out.keep HF2.out (fun h => h))
    have x0 := HA2.out.cell 0
    have x1 := HA2.out.cell 1
    have x2 := HA2.out.cell 2
    have x3 := HA2.out.cell 3
    have y0 := HA2.out.frozen 0
    have y1 := HA2.out.frozen 1
    have y2 := HA2.out.frozen 2
    have y3 := HA2.out.frozen 3
    simp at x0 x1 x2 x3
    clear hf2
    go_wp2_with fail
    refine bodyPost_ret (get_results _ _ B _ _ _ _ _ rfl rfl HA2.out.put4) rfl ?_
    rw [HN.out]
    exact ⟨rfl, put4_fr (HFW.out.trans HF2.out) (by rw [HB.out]; exact Nat.le_refl _)⟩
end Go.Proofs.Ytggjkpgkmohmdaa
