/-
  Layer 10, the program's own: Op.write, Batch.Bytes, Size.
-/
import Derived.Test.YtidfjcaajejfoaaBcA
import Derived.Test.YtidfjcaajejfoaaWireDb
import Derived.Test.YtidfjcaajejfoaaHeld
namespace Go.Proofs.Ytidfjcaajejfoaa
set_option linter.unusedVariables false
open Go.RowKit

/-- A conversion whose run is known, in a region that draws. -/
theorem oper_convert_run {P : Program} {o : Oper} {a : Act} {w w' : World} {K : Act → World → Prop} {Q : Exit → Act → World → Prop} (s d : TypeId) (x : Operand)
    (ho : o.op = .convert s d x) {u v : Value} (hx : a.eval x = u) (hr : (convert s d u).run P w = .ok v w') (h : K (a.put o.dst v) w') : Oper.wp P o a w K Q := by
  unfold Oper.wp
  simp only [execOp, ho, Sem.run_bind, Sem.run_pure, Result.andThen_ok, hx, hr]
  exact h
theorem Rd.in_ {w : World} {T : Nat → Prop} {g : Nat} {l : List UInt8} (h : Rd w (some ⟨g, 0, none⟩) l) (hT : T g) : In w T (some ⟨g, 0, none⟩) l := fun hl => by
  obtain ⟨b, o, e1, e2⟩ := h hl
  injection e1 with e1
  injection e1 with e3 e4 e5
  subst e3 e4
  exact ⟨g, 0, hT, rfl, e2⟩
theorem Wr.bound {w : World} {B : Nat} {S : Nat → Prop} {p : List UInt8} {bad : Bool} (h : Wr w B S p bad) : ∀ k, S k → k < w.heap.size := by
  obtain ⟨_, _, _, _, h⟩ := h
  exact h
theorem Wr.not {w : World} {B : Nat} {S : Nat → Prop} {p : List UInt8} {bad : Bool} (h : Wr w B S p bad) : ¬ S B := by
  obtain ⟨_, _, _, h, _⟩ := h
  exact h
/-- A writer on its way: what it has turned since w is its own, or new. -/
structure WrT (S : Nat → Prop) (w a : World) (B : Nat) (T : Nat → Prop) (p : List UInt8) (bad : Bool) : Prop where
  wr : Wr a B T p bad
  old : ∀ k, T k → k < w.heap.size → S k
  fr : Fr (Two (One B) S) w a
  lt : B < w.heap.size
  ns : ¬ S B
  sb : ∀ k, S k → k < w.heap.size
theorem WrT.start {S : Nat → Prop} {w : World} {B : Nat} {p : List UInt8} {bad : Bool} (h : Wr w B S p bad) : WrT S w w B S p bad := ⟨h, fun _ h _ => h, Fr.refl _ _, h.lt, h.not, h.bound⟩
theorem WrT.no {S : Nat → Prop} {w a b : World} {B : Nat} {T : Nat → Prop} {p : List UInt8} {bad : Bool} (h : WrT S w a B T p bad) (f : Fr No a b) : WrT S w b B T p bad :=
  ⟨h.wr.keep f (fun h => h) (fun _ _ h => h), h.old, h.fr.then_ f fun _ _ h => h.elim, h.lt, h.ns, h.sb⟩
theorem WrT.call {S : Nat → Prop} {w a : World} {B : Nat} {T : Nat → Prop} {p p' : List UInt8} {bad bad' : Bool} (h : WrT S w a B T p bad) {e : Ending} {w' : World} (hr : WrRet B T p' bad' a e w') :
    e = .returned (.pointer (some ⟨B, 0, none⟩)) ∧ WrT S w w' B (Gr T a w') p' bad' ∧ Fr (Two (One B) T) a w' := by
  obtain ⟨rfl, h1, h2⟩ := hr
  refine ⟨rfl, ⟨h1, fun k hk hl => ?_, h.fr.then_ h2 fun k hk hh => ?_, h.lt, h.ns, h.sb⟩, h2⟩
  · rcases hk with hk | hk
    · exact h.old k hk hl
    · have := h.fr.size; omega
  · exact hh.elim .inl fun hh => .inr (h.old k hh hk)
theorem WrT.done {S : Nat → Prop} {w a : World} {B : Nat} {T : Nat → Prop} {p : List UInt8} {bad : Bool} (h : WrT S w a B T p bad) : Wr a B (Gr S w a) p bad ∧ Fr (Two (One B) S) w a :=
  ⟨h.wr.sub (fun k hk => by
    rcases Nat.lt_or_ge k w.heap.size with h1 | h1
    · exact .inl (h.old k hk h1)
    · exact .inr ⟨h1, h.wr.bound k hk⟩) (fun hh => hh.elim h.ns fun hh => by have := h.lt; omega) (fun k hk => hk.elim (fun hk => Nat.lt_of_lt_of_le (h.sb k hk) h.fr.size) fun hk => hk.2), h.fr⟩
def WriteRet (B : Nat) (S : Nat → Prop) (p : List UInt8) (w : World) (e : Ending) (w' : World) : Prop := e = .returned (.tuple #[]) ∧ ∃ T, WrT S w w' B T p false
set_option maxRecDepth 20000 in
set_option maxHeartbeats 3200000 in
theorem write_c (x : Op10) (w : World) (B : Nat) (S : Nat → Prop) (p : List UInt8) (hr : rightO x = true) (hw : Wr w B S p false) (hm : p.length ≤ 1000000) :
    Calls Try.prog 27 #[opV x, .pointer (some ⟨B, 0, none⟩)] w (WriteRet B S (p ++ opB x) w) := by
  obtain ⟨r1, r2, r3, r4⟩ := rightO_parts hr
  obtain ⟨c, hc⟩ : ∃ c : UInt8, ((c.toNat : Nat) : Int) = x.k ∧ kindB x.k = c := by
    rcases r4 with h | ⟨h, _⟩ <;> rw [h]
    · exact ⟨1, rfl, rfl⟩
    · exact ⟨2, rfl, rfl⟩
  have HOP : Hid (p ++ opB x = p ++ ([c] ++ (textB x.key ++ if x.k = 1 then textB x.val else []))) := Lib.hid (by unfold opB; rw [hc.2]; rfl)
  have HC := Lib.hid hc.1
  have hwp : IntKind.u8.wrap x.k = x.k := by rw [IntKind.wrap_u8]; omega
  obtain ⟨W, hW, hfW, hat⟩ := box_op w x
  have hG : At W w.heap.size 30 #[.int .i64 x.k, .string x.key, .string x.val] := by rw [← hW]; exact At.new _ _ _
  obtain ⟨G, hGe⟩ : ∃ G, w.heap.size = G := ⟨_, rfl⟩
  rw [hGe] at hG
  have HG := Lib.hid hG
  have HGe := Lib.hid hGe
  have HGB : Hid (¬ One B G) := Lib.hid (fun h => by have := hw.lt; have h : G = B := h; omega)
  have HGS : Hid (¬ S G) := Lib.hid (fun h => by have := hw.bound _ h; omega)
  have HGW : Hid (¬ W.heap.size ≤ G) := Lib.hid (by have := hG.lt; omega)
  have HT0 := Lib.hid ((WrT.start hw).no hfW)
  have HW := Lib.hid hW
  have HFIN : Hid (∀ a T, WrT S w a B T (p ++ opB x) false → ∃ T, WrT S w a B T (p ++ opB x) false) := Lib.hid fun a T h => ⟨T, h⟩
  obtain ⟨P', hP'⟩ : ∃ P', p ++ opB x = P' := ⟨_, rfl⟩
  rw [hP'] at HFIN HOP ⊢
  clear hc hw hW hfW hG hGe hr r4 hP' hat
  unfold opV
  go_enter Try.func27, Try.ntmps27
  go_wp2_with fail
  rw [HW.out, HGe.out]
  refine wp_region_held_drew (S := fun w' => At w' G 30 #[.int .i64 x.k, .string x.key, .string x.val]) (by kernel_rfl) (HG.out.keep (Fr.refl No W).drew (fun h => h)) (fun hHeld => ?_)
  refine take_drop (i := 0) (v := ?v0_w1) rfl (by kernel_rfl) (by kernel_rfl) (by kernel_rfl) (fun _ _ _ h => h) (Or.inl ⟨by rfl, ?h0_w1⟩) hHeld ?r0_w1
  case h0_w1 => (intro wS hSw; have c0 := hSw.cell 0; have c1 := hSw.cell 1; go_simp; all_goals (with_reducible rfl))
  simp only [Act.put, List.setIfInBounds_toArray, List.set_cons_zero, List.set_cons_succ]
  refine take_drop (i := 1) (v := ?v1_w2) rfl (by kernel_rfl) (by kernel_rfl) (by kernel_rfl) (fun _ _ _ h => h) (Or.inl ⟨by rfl, ?h1_w2⟩) hHeld ?r1_w2
  case h1_w2 => (intro wS hSw; have c0 := hSw.cell 0; have c1 := hSw.cell 1; go_simp; all_goals (with_reducible rfl))
  simp only [Act.put, List.setIfInBounds_toArray, List.set_cons_zero, List.set_cons_succ]
  refine take_drop (i := 2) (v := ?v2_w3) rfl (by kernel_rfl) (by kernel_rfl) (by kernel_rfl) (fun _ _ _ h => h) (Or.inl ⟨by rfl, ?h2_w3⟩) hHeld ?r2_w3
  case h2_w3 => (intro wS hSw; have c0 := hSw.cell 0; have c1 := hSw.cell 1; go_simp; all_goals (with_reducible rfl))
  simp only [Act.put, List.setIfInBounds_toArray, List.set_cons_zero, List.set_cons_succ]
  refine take_drop (i := 3) (v := ?v3_w4) rfl (by kernel_rfl) (by kernel_rfl) (by kernel_rfl) (fun _ _ _ h => h) (Or.inl ⟨by rfl, ?h3_w4⟩) hHeld ?r3_w4
  case h3_w4 => (intro wS hSw; have c0 := hSw.cell 0; have c1 := hSw.cell 1; go_simp; all_goals (with_reducible rfl))
  simp only [Act.put, List.setIfInBounds_toArray, List.set_cons_zero, List.set_cons_succ]
  refine take_drop (i := 5) (v := ?v5_w5) rfl (by kernel_rfl) (by kernel_rfl) (by kernel_rfl) (fun _ _ _ h => h) (Or.inl ⟨by rfl, ?h5_w5⟩) hHeld ?r5_w5
  case h5_w5 => (intro wS hSw; have c0 := hSw.cell 0; have c1 := hSw.cell 1; go_simp; all_goals (with_reducible rfl))
  simp only [Act.put, List.setIfInBounds_toArray, List.set_cons_zero, List.set_cons_succ]
  refine take_drop (i := 6) (v := ?v6_w6) rfl (by kernel_rfl) (by kernel_rfl) (by kernel_rfl) (fun _ _ _ h => h) (Or.inl ⟨by rfl, ?h6_w6⟩) hHeld ?r6_w6
  case h6_w6 => (intro wS hSw; have c0 := hSw.cell 0; have c1 := hSw.cell 1; go_simp; all_goals (with_reducible rfl))
  simp only [Act.put, List.setIfInBounds_toArray, List.set_cons_zero, List.set_cons_succ]
  obtain ⟨wR, hR⟩ : ∃ y, W.drew = y := ⟨_, rfl⟩
  rw [hR] at hHeld ⊢
  have HT := Lib.hid (HT0.out.no (by rw [← hR]; exact (Fr.refl No W).drew : Fr No W wR))
  have HG := Lib.hid hHeld
  clear hHeld hR
  have HGR : Hid (G < wR.heap.size) := Lib.hid HG.out.lt
  refine wpAnyH_ready (rs := [4, 7]) (by kernel_rfl) (by simp) ?_
  refine do_drop (i := 4) rfl (fun K hK => ?_) ?_
  · go_simp
    have hb_ := wbyte_c c wR B _ p false HT.out.wr (by omega)
    rw [HC.out] at hb_
    refine hb_.mono ?_
    intro e w1 hr_
    obtain ⟨rfl, ht_, hf_⟩ := HT.out.call hr_
    have HG := Lib.hid (HG.out.keep hf_ (fun h => h.elim HGB.out HGS.out))
    have HT1 := Lib.hid ht_
    have HFB := Lib.hid hf_
    refine hK.out _ _ HG.out ?_
    clear hK K hr_ ht_ hf_ hb_
    try simp only [Act.put, List.setIfInBounds_toArray, List.set_cons_zero, List.set_cons_succ]
    refine wpAnyH_ready (rs := [7]) (by kernel_rfl) (by simp) ?_
    refine do_drop (i := 7) rfl (fun K hK => ?_) AllReadyH.nil
    obtain ⟨cc, w2, hcv, hrd, hfv⟩ := conv_str w1 x.key
    have HG := Lib.hid (HG.out.keep hfv (fun h => h))
    have HT2 := Lib.hid (HT1.out.no hfv)
    have HRD := Lib.hid hrd
    obtain ⟨g, hg⟩ : ∃ g, w1.heap.size = g := ⟨_, rfl⟩
    have hgB : B < g := by rw [← hg]; exact HT1.out.wr.lt
    have hgT := Lib.hid (show ∀ k, _ → k < g by rw [← hg]; exact HT1.out.wr.bound)
    have HSZ : Hid (g < w2.heap.size) := Lib.hid (by
      rw [← hg]
      obtain ⟨b_, o_, e1_, e2_⟩ := hrd (by rw [bs_length]; omega)
      injection e1_ with e1_
      injection e1_ with e3_ e4_ e5_
      have := cell_block (e2_ 0 (by rw [bs_length]; omega))
      rw [← e3_] at this
      exact this)
    have HG1 : Hid (G < w2.heap.size) := Lib.hid HG.out.lt
    rw [if_pos (by rfl)]
    refine oper_convert_run _ _ _ rfl rfl hcv ?_
    rw [hg] at HRD ⊢
    refine hK.out _ _ HG.out ?_
    clear hK K hcv hrd hfv hg
    try simp only [Act.put, List.setIfInBounds_toArray, List.set_cons_zero, List.set_cons_succ]
    refine wpAnyH_ready (rs := [8]) (by kernel_rfl) (by simp) ?_
    refine do_drop (i := 8) rfl (fun K hK => ?_) AllReadyH.nil
    go_simp
    have HIN : Hid (In w2 (fun k => k ≠ B ∧ ¬ Gr S wR w1 k) (some ⟨g, 0, none⟩) (bs x.key)) := Lib.hid (HRD.out.in_ ⟨by omega, fun h => absurd (hgT.out _ h) (by omega)⟩)
    refine (wtext_c (some ⟨g, 0, none⟩) x.key.size cc (bs x.key) w2 B _ (p ++ [c]) false HT2.out.wr (bs_length _) (by simp only [List.length_append, List.length_cons, List.length_nil]; omega) HIN.out).mono ?_
    intro e w9 hr_
    obtain ⟨rfl, ht_, hf_⟩ := HT2.out.call hr_
    have HG := Lib.hid (HG.out.keep hf_ (fun h => h.elim HGB.out fun h => h.elim HGS.out fun h => by have := HGR.out; omega))
    have HT := Lib.hid ht_
    refine hK.out _ _ HG.out ?_
    clear hK K hr_ ht_ hf_
    try simp only [Act.put, List.setIfInBounds_toArray, List.set_cons_zero, List.set_cons_succ]
    refine wpAnyH_done (by kernel_rfl) ?_ _
    have c0 := HG.out.cell 0
    have c2 := HG.out.cell 2
    by_cases hk : x.k = 1
    · rw [hk] at c0
      obtain ⟨cc2, w10, hcv, hrd, hfv⟩ := conv_str w9 x.val
      have HT10 := Lib.hid (HT.out.no hfv)
      have HRD2 := Lib.hid hrd
      have HB9 := Lib.hid HT.out.wr.bound
      have HL9 := Lib.hid HT.out.wr.lt
      clear hfv hrd
      go_wp2_with fail
      have HIN : Hid (In w10 (fun k => k ≠ B ∧ ¬ Gr _ _ w9 k) (some ⟨w9.heap.size, 0, none⟩) (bs x.val)) := Lib.hid (HRD2.out.in_ ⟨fun h => by have := HL9.out; omega, fun h => absurd (HB9.out _ h) (by omega)⟩)
      refine (wtext_c (some ⟨w9.heap.size, 0, none⟩) x.val.size cc2 (bs x.val) w10 B _ _ false HT10.out.wr (bs_length _) (by
        simp only [List.length_append, List.length_cons, List.length_nil, bs_length]
        have := enc_len9 (show x.key.size < 9223372036854775808 by omega)
        omega) HIN.out).mono ?_
      intro e w11 hr_
      obtain ⟨rfl, ht_, _⟩ := HT10.out.call hr_
      have HT11 := Lib.hid ht_
      clear hr_ ht_ hcv
      go_wp2_with fail
      go_end0
      exact ⟨rfl, HFIN.out _ _ (by
        have h := HT11.out
        rw [List.append_assoc, List.append_assoc] at h
        rw [HOP.out]
        unfold textB
        rw [if_pos hk]
        exact h)⟩
    · have hk2 : (x.k == 1) = false := by simpa using hk
      go_wp2_with fail
      go_end0
      exact ⟨rfl, HFIN.out _ _ (by
        have h := HT.out
        rw [List.append_assoc] at h
        rw [HOP.out]
        unfold textB
        rw [if_neg hk, List.append_nil]
        exact h)⟩

  refine do_drop (i := 7) rfl (fun K hK => ?_) AllReadyH.nil
  obtain ⟨cc, w1, hcv, hrd, hfv⟩ := conv_str wR x.key
  have HG := Lib.hid (HG.out.keep hfv (fun h => h))
  have HT1 := Lib.hid (HT.out.no hfv)
  have HRD := Lib.hid hrd
  obtain ⟨g, hg⟩ : ∃ g, wR.heap.size = g := ⟨_, rfl⟩
  have hgB : B < g := by rw [← hg]; exact HT.out.wr.lt
  have hgT := Lib.hid (show ∀ k, _ → k < g by rw [← hg]; exact HT.out.wr.bound)
  have HSZ : Hid (g < w1.heap.size) := Lib.hid (by
    rw [← hg]
    obtain ⟨b_, o_, e1_, e2_⟩ := hrd (by rw [bs_length]; omega)
    injection e1_ with e1_
    injection e1_ with e3_ e4_ e5_
    have := cell_block (e2_ 0 (by rw [bs_length]; omega))
    rw [← e3_] at this
    exact this)
  have HG1 : Hid (G < w1.heap.size) := Lib.hid HG.out.lt
  rw [if_pos (by rfl)]
  refine oper_convert_run _ _ _ rfl rfl hcv ?_
  rw [hg] at HRD ⊢
  refine hK.out _ _ HG.out ?_
  clear hK K hcv hrd hfv hg
  try simp only [Act.put, List.setIfInBounds_toArray, List.set_cons_zero, List.set_cons_succ]
  refine wpAnyH_ready (rs := [4]) (by kernel_rfl) (by simp) ?_
  refine do_drop (i := 4) rfl (fun K hK => ?_) AllReadyH.nil
  go_simp
  have hb_ := wbyte_c c w1 B _ p false HT1.out.wr (by omega)
  rw [HC.out] at hb_
  refine hb_.mono ?_
  intro e w2 hr_
  obtain ⟨rfl, ht_, hf_⟩ := HT1.out.call hr_
  have HG := Lib.hid (HG.out.keep hf_ (fun h => h.elim HGB.out HGS.out))
  have HT2 := Lib.hid ht_
  have HFB := Lib.hid hf_
  refine hK.out _ _ HG.out ?_
  clear hK K hr_ ht_ hf_ hb_
  try simp only [Act.put, List.setIfInBounds_toArray, List.set_cons_zero, List.set_cons_succ]
  refine wpAnyH_ready (rs := [8]) (by kernel_rfl) (by simp) ?_
  refine do_drop (i := 8) rfl (fun K hK => ?_) AllReadyH.nil
  go_simp
  have HIN : Hid (In w2 (fun k => k ≠ B ∧ ¬ Gr S w1 w2 k) (some ⟨g, 0, none⟩) (bs x.key)) := Lib.hid (((HRD.out.in_ (T := One g) rfl).keep HFB.out fun k hk h => by
    have hk : k = g := hk
    rcases h with h | h
    · have h : k = B := h; omega
    · have := hgT.out _ h; omega).sub fun k hk h => by
    have h : k = g := h
    refine ⟨by omega, fun h => ?_⟩
    rcases h with h | h
    · have := hgT.out _ h; omega
    · have := HSZ.out; omega)
  refine (wtext_c (some ⟨g, 0, none⟩) x.key.size cc (bs x.key) w2 B _ (p ++ [c]) false HT2.out.wr (bs_length _) (by simp only [List.length_append, List.length_cons, List.length_nil]; omega) HIN.out).mono ?_
  intro e w9 hr_
  obtain ⟨rfl, ht_, hf_⟩ := HT2.out.call hr_
  have HG := Lib.hid (HG.out.keep hf_ (fun h => h.elim HGB.out fun h => h.elim HGS.out fun h => by have := HG1.out; omega))
  have HT := Lib.hid ht_
  refine hK.out _ _ HG.out ?_
  clear hK K hr_ ht_ hf_
  try simp only [Act.put, List.setIfInBounds_toArray, List.set_cons_zero, List.set_cons_succ]
  refine wpAnyH_done (by kernel_rfl) ?_ _
  have c0 := HG.out.cell 0
  have c2 := HG.out.cell 2
  by_cases hk : x.k = 1
  · rw [hk] at c0
    obtain ⟨cc2, w10, hcv, hrd, hfv⟩ := conv_str w9 x.val
    have HT10 := Lib.hid (HT.out.no hfv)
    have HRD2 := Lib.hid hrd
    have HB9 := Lib.hid HT.out.wr.bound
    have HL9 := Lib.hid HT.out.wr.lt
    clear hfv hrd
    go_wp2_with fail
    have HIN : Hid (In w10 (fun k => k ≠ B ∧ ¬ Gr _ _ w9 k) (some ⟨w9.heap.size, 0, none⟩) (bs x.val)) := Lib.hid (HRD2.out.in_ ⟨fun h => by have := HL9.out; omega, fun h => absurd (HB9.out _ h) (by omega)⟩)
    refine (wtext_c (some ⟨w9.heap.size, 0, none⟩) x.val.size cc2 (bs x.val) w10 B _ _ false HT10.out.wr (bs_length _) (by
      simp only [List.length_append, List.length_cons, List.length_nil, bs_length]
      have := enc_len9 (show x.key.size < 9223372036854775808 by omega)
      omega) HIN.out).mono ?_
    intro e w11 hr_
    obtain ⟨rfl, ht_, _⟩ := HT10.out.call hr_
    have HT11 := Lib.hid ht_
    clear hr_ ht_ hcv
    go_wp2_with fail
    go_end0
    exact ⟨rfl, HFIN.out _ _ (by
      have h := HT11.out
      rw [List.append_assoc, List.append_assoc] at h
      rw [HOP.out]
      unfold textB
      rw [if_pos hk]
      exact h)⟩
  · have hk2 : (x.k == 1) = false := by simpa using hk
    go_wp2_with fail
    go_end0
    exact ⟨rfl, HFIN.out _ _ (by
      have h := HT.out
      rw [List.append_assoc] at h
      rw [HOP.out]
      unfold textB
      rw [if_neg hk, List.append_nil]
      exact h)⟩
end Go.Proofs.Ytidfjcaajejfoaa
