/-
  Layer 11, the program's own: put; New, Len, Size, Last, height.
-/
import Derived.Test.YtggjkpgkmohmdaaMmA
import Derived.Test.YtggjkpgkmohmdaaIkC2
import Derived.Test.YtggjkpgkmohmdaaMeF
namespace Go.Proofs.Ytggjkpgkmohmdaa
set_option linter.unusedVariables false
open Go.RowKit

set_option maxRecDepth 20000 in
set_option maxHeartbeats 3200000 in
theorem tput_c (w : World) (t sb hb hs mb : Nat) (ns : List KU.N2) (es : List Ent) (Z : Nat) (la : Int) (x : Ent) (h : Nat) (H : TabAt w t sb hb hs mb ns es Z la) (hl : es.length ≤ 200000) (hZ : Z ≤ 1000000000000) (hx : EntGood x) (hne : ∀ e ∈ es, cmpE x e ≠ 0) (h1 : 1 ≤ h) (h2 : h ≤ 12) :
    Calls Try.prog 35 #[.pointer (some ⟨t, 0, none⟩), entV x, .int .i64 (h : Int)] w fun e w' => e = .returned (.tuple #[]) ∧ (∃ ns', TabAt w' t sb hb hs mb ns' (putL x es) (Z + sizeE x) la ∧ (∀ k, TabOn t sb hb hs mb ns' k → TabOn t sb hb hs mb ns k ∨ w.heap.size ≤ k)) ∧ Fr (TabOn t sb hb hs mb ns) w w' := by
  obtain ⟨W, hW, hfW, hat⟩ := box_ent w x 39
  have HT := Lib.hid (H.keep hfW (fun _ _ h => h))
  have HLT := Lib.hid H.lt
  have HX := Lib.hid hx
  have HNE := Lib.hid hne
  obtain ⟨g1, g2, g3, g4, g5, g6, g7⟩ := hx
  have hB := bytes_yes x.u x.q x.k W HX.out.rt
  obtain ⟨B, hBB⟩ : ∃ B, w.heap.size = B := ⟨_, rfl⟩
  rw [hBB] at hat HLT
  have HEA := Lib.hid hat
  obtain ⟨p0, p1, p2, p3⟩ := hat
  have hts := txt_size HX.out
  have htl : (txt x).size = (encK x.u.data.toList x.q x.k).length := by rw [← txt_list, ba_len]
  have htx : strOf (encK x.u.data.toList x.q x.k) = txt x := rfl
  have hsz : sizeE x = (txt x).size + x.val.size := by rw [htl]; rfl
  obtain ⟨L, hL⟩ : ∃ L, encK x.u.data.toList x.q x.k = L := ⟨_, rfl⟩
  rw [hL] at hB htl htx
  obtain ⟨len, hlen⟩ : ∃ len, L.length = len := ⟨_, rfl⟩
  have HLEN := Lib.hid hlen
  have HC := Lib.hid hB
  have HW := Lib.hid hW
  have HFW := Lib.hid hfW
  have HTX := Lib.hid htx
  have HSZ := Lib.hid hsz
  have HBB := Lib.hid hBB
  clear H hne hW hfW hB hBB hlen htx hsz htl hL
  unfold entV
  go_enter Try.func35, Try.ntmps35
  go_wp2_with fail
  rw [HW.out, HBB.out]
  refine (show Calls _ _ _ _ _ from HC.out).mono ?_
  rintro e w1 ⟨a1, c1, rfl, hr1, hf1⟩
  have HT1 := Lib.hid (HT.out.keep hf1 (fun _ _ h => h))
  have hrd : Rd w1 a1 L := by
    obtain ⟨a', c', e, _, _, hin⟩ := hr1.form
    cases e
    exact hin.rd
  have hcv := conv_rd w1 a1 L.length c1 L rfl hrd
  rw [HTX.out] at hcv
  have HF1 := Lib.hid (HFW.out.trans hf1)
  have p0 := hf1.cell p0 (fun h => h)
  have p1 := hf1.cell p1 (fun h => h)
  have p2 := hf1.cell p2 (fun h => h)
  have p3 := hf1.cell p3 (fun h => h)
  have t0 := HT1.out.tb.cell 0
  simp at t0
  clear hr1 hf1 hrd
  have HPU := Lib.hid (KU.put_c sb hb hs ns (txt x) () (h : Int) w1 HT1.out.sk (by rw [HT1.out.len]; omega) (fun n hn e => by
    have hm : n.k ∈ es.map txt := by rw [← HT1.out.ks]; exact List.mem_map_of_mem hn
    obtain ⟨z, hz, hze⟩ := List.mem_map.1 hm
    exact HNE.out z hz (txt_inj HX.out (HT1.out.good z hz) (e.symm.trans hze.symm))))
  go_wp2_with fail
  refine (show Calls _ _ _ _ _ from HPU.out).mono ?_
  rintro e w2 ⟨⟨ns', hsk, hon, hps⟩, hf2⟩
  have HNEW : Hid (e = .returned (.tuple #[.bool true, .int .i64 0]) ∧ ns'.map (·.k) = (putL x es).map txt) := Lib.hid (by
    rcases hps with ⟨h3, _⟩ | ⟨_, _, nd, hk, _, _, he, rfl⟩
    · exact absurd h3 (by omega)
    · exact ⟨he, insN_txt hk HX.out ns es HT1.out.good HT1.out.ks⟩)
  obtain ⟨rfl, hks⟩ := HNEW.out
  have HSK := Lib.hid hsk
  have HON := Lib.hid hon
  have HKS := Lib.hid hks
  have hbn : ∀ k, SkOn sb hb hs ns k → k ≠ B := fun k hk e => by have := HLT.out k (.inr (.inr hk)); omega
  have HMB := Lib.hid (show mb < B from HLT.out mb (.inr (.inl rfl)))
  have p0 := hf2.cell p0 (fun h => hbn B h rfl)
  have p1 := hf2.cell p1 (fun h => hbn B h rfl)
  have p2 := hf2.cell p2 (fun h => hbn B h rfl)
  have p3 := hf2.cell p3 (fun h => hbn B h rfl)
  have HTB := Lib.hid (HT1.out.tb.keep hf2 HT1.out.ne.2.1)
  have tb1 := HTB.out.cell 1
  simp at tb1
  have hmp := (HT1.out.mp.keep hf2 HT1.out.ne.2.2).keep ((Fr.refl No w2).drew) (fun h => h)
  obtain ⟨w3, hrun, hmp3, hf3⟩ := hmp.put (by omega) HX.out HT1.out.good HNE.out
  have HMP := Lib.hid hmp3
  have HF2 := Lib.hid hf2
  have HF3 := Lib.hid ((Fr.refl (One mb) w2).drew.trans hf3)
  have q0 := HF3.out.cell p0 (fun h : B = mb => by have := HMB.out; omega)
  have q1 := HF3.out.cell p1 (fun h : B = mb => by have := HMB.out; omega)
  have q2 := HF3.out.cell p2 (fun h : B = mb => by have := HMB.out; omega)
  have q3 := HF3.out.cell p3 (fun h : B = mb => by have := HMB.out; omega)
  have HTB3 := Lib.hid (HTB.out.keep HF3.out (fun h : t = mb => HT1.out.ne.1 h))
  have tb2 := HTB3.out.cell 2
  have fb2 := HTB3.out.frozen 2
  simp at tb2
  unfold entV at hrun
  clear hps hsk hon hks hmp hmp3 hf2 hf3 HNEW hcv t0 hbn
  go_wp2_with fail
  go_region
  go_wp2_with fail
  go_region
  go_wp2_with fail
  go_end0
  have hZs : ((Z : Int) + (((txt x).size : Int) + (x.val.size : Int))) = ((Z + sizeE x : Nat) : Int) := by rw [HSZ.out]; simp
  rw [hZs]
  have f4 : Fr (One t) w3 (w3.setCell ⟨t, 2, none⟩ (.int .i64 ((Z + sizeE x : Nat) : Int))).drew := (Fr.setCell (Fr.refl (One t) w3) (p := ⟨t, 2, none⟩) (fun _ => show One t t from rfl) _).drew
  have hBt : t < B := HLT.out t (.inl rfl)
  have hts : ¬ SkOn sb hb hs ns' t ∧ ¬ SkOn sb hb hs ns' mb := by
    refine ⟨fun h => ?_, fun h => ?_⟩
    · rcases HON.out t h with h | h
      · exact HT1.out.ne.2.1 h
      · have := HF1.out.size; have := HBB.out; omega
    · rcases HON.out mb h with h | h
      · exact HT1.out.ne.2.2 h
      · have := HF1.out.size; have := HBB.out; have := HMB.out; omega
  refine ⟨rfl, ⟨ns', ⟨?_, ?_, HMP.out.keep f4 (fun h : mb = t => HT1.out.ne.1 h.symm), ⟨HT1.out.ne.1, hts.1, hts.2⟩, HKS.out, fun z hz => ?_, ?_⟩, ?_⟩, ?_⟩
  · have := (HTB3.out.set_ 2 (.int .i64 ((Z + sizeE x : Nat) : Int))).keep ((Fr.refl No _).drew) (fun h => h)
    simpa using this
  · exact (HSK.out.keep HF3.out (fun k hk (e : k = mb) => hts.2 (e ▸ hk))).keep f4 (fun k hk (e : k = t) => hts.1 (e ▸ hk))
  · rcases putL_mem.1 hz with rfl | hz
    · exact HX.out
    · exact HT1.out.good z hz
  · exact putL_srt HT1.out.srt HNE.out
  · rintro k (hk | hk | hk)
    · exact .inl (.inl hk)
    · exact .inl (.inr (.inl hk))
    · rcases HON.out k hk with h | h
      · exact .inl (.inr (.inr h))
      · exact .inr (Nat.le_trans HF1.out.size h)
  · refine (((HF1.out.sub (fun k _ h => absurd h (fun h => h))).then_ HF2.out (fun k _ hk => .inr (.inr hk))).then_ HF3.out (fun k _ (hk : k = mb) => .inr (.inl hk))).then_ f4 (fun k _ (hk : k = t) => .inl hk)
end Go.Proofs.Ytggjkpgkmohmdaa
namespace Go.Proofs.Ytggjkpgkmohmdaa
set_option linter.unusedVariables false
open Go.RowKit

theorem Dm.keep_ {w w' : World} {t : Nat} {F T : Nat → Prop} {m : Mt} (h : Dm w t F m) (f : Fr T w w') (hn : ∀ k, F k → ¬ T k) : Dm w' t F m := by
  obtain ⟨sb, hb, hs, mb, ns, h1, h2, h3, h4⟩ := h
  exact ⟨sb, hb, hs, mb, ns, h1.keep f (fun k hk => hn k ((h2 k).2 hk)), h2, h3, h4⟩
theorem Dm.low_ {w : World} {t : Nat} {F : Nat → Prop} {m : Mt} (h : Dm w t F m) : ∀ k, F k → k < w.heap.size := by
  obtain ⟨sb, hb, hs, mb, ns, h1, h2, h3, h4⟩ := h
  exact fun k hk => h1.lt k ((h2 k).1 hk)
set_option maxRecDepth 20000 in
set_option maxHeartbeats 800000 in
theorem tnew_c (w : World) : Calls Try.prog 18 #[] w fun e w' => ∃ t F, e = .returned (.pointer (some ⟨t, 0, none⟩)) ∧ Dm w' t F newMt ∧ (∀ k, F k → w.heap.size ≤ k) ∧ Fr No w w' := by
  have HC := Lib.hid (KU.new_c w)
  have hmm := @run_makeMap Try.prog
  go_enter Try.func18, Try.ntmps18
  go_wp2_with fail
  refine (show Calls _ _ _ _ _ from HC.out).mono ?_
  rintro e w1 ⟨⟨sb, hb, hs, rfl, hsk, hon⟩, hf1⟩
  have HSK := Lib.hid hsk
  have HON := Lib.hid hon
  have HF1 := Lib.hid hf1
  clear hsk hon hf1
  go_wp2_with fail
  go_ret
  have f2 : Fr No w1 (w1.alloc (.map #[] 0)) := (Fr.refl No w1).alloc _
  have f3 : Fr No (w1.alloc (.map #[] 0)) ((w1.alloc (.map #[] 0)).alloc (.cells #[.pointer (some ⟨sb, 0, none⟩), .map (some w1.heap.size), .int .i64 0, .int .i64 (-1)] 71)) := (Fr.refl No _).alloc _
  have hz : (w1.alloc (.map #[] 0)).heap.size = w1.heap.size + 1 := by simp
  have hmp : MapE (w1.alloc (.map #[] 0)) w1.heap.size [] := ⟨_, World.ownsMap_made _ _ _ _, fun x hx => absurd hx List.not_mem_nil⟩
  have hs1 := HF1.out.size
  have hsk1 : ∀ k, SkOn sb hb hs ([] : List KU.N2) k → k < w1.heap.size := HSK.out.lt_size
  have tb := At.new (w1.alloc (.map #[] 0)) 71 #[.pointer (some ⟨sb, 0, none⟩), .map (some w1.heap.size), .int .i64 0, .int .i64 (-1)]
  rw [hz] at tb
  refine ⟨w1.heap.size + 1, TabOn (w1.heap.size + 1) sb hb hs w1.heap.size [], rfl, ⟨sb, hb, hs, w1.heap.size, [], ⟨tb, HSK.out.keep (f2.trans f3) (fun _ _ h => h), hmp.keep f3 (fun h => h), ⟨by omega, fun h => ?_, fun h => ?_⟩, rfl, fun x hx => absurd hx List.not_mem_nil, List.Pairwise.nil⟩, fun k => Iff.rfl, newMt_srt, ⟨Nat.le_refl _, fun x hx => absurd hx List.not_mem_nil, by simp [newMt]⟩, fun x hx => absurd hx List.not_mem_nil⟩, ?_, HF1.out.trans (f2.trans f3)⟩
  · have := hsk1 _ h
    omega
  · have := hsk1 _ h
    omega
  · rintro k (rfl | rfl | hk)
    · omega
    · exact hs1
    · exact HON.out k hk
set_option maxHeartbeats 800000 in
theorem tlen_c (w : World) (t : Nat) (F : Nat → Prop) (m : Mt) (H : Dm w t F m) : Calls Try.prog 21 #[.pointer (some ⟨t, 0, none⟩)] w (Ask (.int .i64 (m.es.length : Int)) w) := by
  obtain ⟨sb, hb, hs, mb, ns, h1, h2, h3, h4⟩ := H
  have t0 := h1.tb.cell 0
  simp at t0
  have HC := Lib.hid (KU.len_c h1.sk)
  have HL := Lib.hid h1.len
  clear h1 h2 h3 h4
  go_enter Try.func21, Try.ntmps21
  go_wp2_with fail
  refine (show Calls _ _ _ _ _ from HC.out).mono ?_
  rintro e w1 ⟨rfl, rfl⟩
  go_wp2_with fail
  go_ret
  exact ⟨congrArg (fun n : Nat => Ending.returned (.int .i64 (n : Int))) HL.out, Fr.refl _ _⟩
set_option maxHeartbeats 800000 in
theorem tsize_c (w : World) (t : Nat) (F : Nat → Prop) (m : Mt) (H : Dm w t F m) : Calls Try.prog 26 #[.pointer (some ⟨t, 0, none⟩)] w (Ask (.int .i64 (sizeMt m : Int)) w) := by
  obtain ⟨sb, hb, hs, mb, ns, h1, h2, h3, h4⟩ := H
  have t0 := h1.tb.cell 2
  simp at t0
  clear h1 h2 h3 h4
  go_enter Try.func26, Try.ntmps26
  go_wp2_with fail
  go_ret
  exact ⟨rfl, Fr.refl _ _⟩
set_option maxHeartbeats 800000 in
theorem tlast_c (w : World) (t : Nat) (F : Nat → Prop) (m : Mt) (H : Dm w t F m) : Calls Try.prog 23 #[.pointer (some ⟨t, 0, none⟩)] w (Ask (.int .i64 m.last) w) := by
  obtain ⟨sb, hb, hs, mb, ns, h1, h2, h3, h4⟩ := H
  have t0 := h1.tb.cell 3
  simp at t0
  clear h1 h2 h3 h4
  go_enter Try.func23, Try.ntmps23
  go_wp2_with fail
  go_ret
  exact ⟨rfl, Fr.refl _ _⟩
theorem u64_and3r (n : Int) : bits .and .u64 n 3 = n % 4 := by
  have h3 : (BitVec.ofInt 64 3).toNat = 2 ^ 2 - 1 := by decide
  have key : (BitVec.ofInt 64 n &&& BitVec.ofInt 64 3).toNat = (n % ((2 ^ 64 : Nat) : Int)).toNat % 2 ^ 2 := by
    rw [BitVec.toNat_and, BitVec.toNat_ofInt, h3, Nat.and_two_pow_sub_one_eq_mod]
  show IntKind.u64.wrap ((BitVec.ofInt 64 n &&& BitVec.ofInt 64 3).toNat : Nat) = n % 4
  rw [key, IntKind.wrap_u64]
  omega
set_option maxRecDepth 20000 in
set_option maxHeartbeats 1600000 in
/-- A draw's height is one of twelve. -/
theorem heightR_c (d : Int) (w : World) (h0 : -9223372036854775808 ≤ d) (h1 : d ≤ 9223372036854775807) :
    Calls Try.prog 48 #[.int .i64 d] w fun e w' => (∃ h : Nat, e = .returned (.int .i64 (h : Int)) ∧ 1 ≤ h ∧ h ≤ 12) ∧ w = w' := by
  go_enter Try.func48, Try.ntmps48
  go_wp2_with fail
  go_loopw [3, 4] (fun i p wr => ∃ (h : Nat) (pp : Int), i = .int .i64 h ∧ p = .int .u64 pp ∧ 0 ≤ pp ∧ pp < 18446744073709551616 ∧ 1 ≤ h ∧ h ≤ 12 ∧ w = wr) (fun i _ _ => 12 - (intOf i).toNat)
  case atStart => exact ⟨1, IntKind.u64.wrap d, rfl, rfl, by rw [IntKind.wrap_u64]; omega, by rw [IntKind.wrap_u64]; omega, by omega, by omega, rfl⟩
  case round =>
    obtain ⟨h, pp, rfl, rfl, hp0, hp1, hh1, hh2, rfl⟩ := hrel
    by_cases hb12 : h = 12
    · subst hb12
      go_wp2_with fail
      go_ret
      exact ⟨⟨12, rfl, by omega, by omega⟩, rfl⟩
    · have d0 : decide ((h : Int) < 12) = true := by rw [decide_eq_true_eq]; omega
      by_cases hb : pp % 4 = 3
      · have hy : (bits .and .u64 pp 3 == 3) = true := by rw [u64_and3r, hb]; rfl
        clear hb
        go_wp2_with fail
        go_roundw
        case rel => exact ⟨h + 1, pp / 4, by simp, rfl, by omega, by omega, by omega, by omega, by simp⟩
        case measure => simp [intOf]; omega
      · have hy : (bits .and .u64 pp 3 == 3) = false := by rw [u64_and3r]; exact beq_eq_false_iff_ne.2 hb
        clear hb
        go_wp2_with fail
        go_ret
        exact ⟨⟨h, rfl, hh1, hh2⟩, rfl⟩
end Go.Proofs.Ytggjkpgkmohmdaa
