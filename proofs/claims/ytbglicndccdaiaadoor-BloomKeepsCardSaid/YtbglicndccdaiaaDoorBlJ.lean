/-
  Layer 4: the contract of a filter's Has.
-/
import Derived.Test.YtbglicndccdaiaaDoorBlI
namespace Go.Proofs.YtbglicndccdaiaaDoor
set_option linter.unusedVariables false
set_option linter.unusedSimpArgs false
open Go.RowKit Go.Shelf
attribute [local go_sem] Oper.semAt_some

/-- What the rounds of Has keep. -/
def HasI (w w1 : World) (b g : Nat) (bs : List UInt8) (p B0 : Nat) (m : Nat) (pre : List (Fin m)) (W : World) : Prop :=
  hasB bs (pre.map (·.val)) = true ∧ At W B0 28 #[.pointer (some ⟨b, 0, none⟩)] ∧ At W (B0 + 1) 4 #[.bool false] ∧ Fr No w W ∧ w1.heap.size ≤ W.heap.size
def HasX (w w1 : World) (bs : List UInt8) (B0 : Nat) (m : Nat) (c : Code) (pre : List (Fin m)) (W : World) : Prop :=
  c = .ret ∧ hasB bs (pre.map (·.val)) = false ∧ At W (B0 + 1) 4 #[.bool false] ∧ Fr No w W
theorem hasI_own (w w1 : World) (b g : Nat) (bs : List UInt8) (p B0 m : Nat) (h : w.heap.size ≤ w1.heap.size) : OwnFrom w1.heap.size (HasI w w1 b g bs p B0 m) := fun pre W W' row ⟨h1, h2, h3, h4, h5⟩ hg hr =>
  ⟨h1, own_at h2 hg hr, own_at h3 hg hr, own_frS h h4 hg hr, Nat.le_trans h5 hg.size⟩
theorem hasX_own (w w1 : World) (bs : List UInt8) (B0 m : Nat) (h : w.heap.size ≤ w1.heap.size) (c : Code) : OwnFrom w1.heap.size (HasX w w1 bs B0 m c) := fun pre W W' row ⟨h1, h2, h3, h4⟩ hg hr =>
  ⟨h1, h2, own_at h3 hg hr, own_frS h h4 hg hr⟩
theorem hasB_snoc (bs : List UInt8) (ps : List Nat) (q : Nat) : hasB bs (ps ++ [q]) = (hasB bs ps && bitB bs q) := by simp [hasB]
theorem and_bit (v k : Nat) : v &&& 2 ^ k = if v.testBit k then 2 ^ k else 0 := by
  cases hb : v.testBit k
  · simp only [Bool.false_eq_true, if_false]
    apply Nat.eq_of_testBit_eq
    intro i
    rw [Nat.testBit_and, Nat.testBit_two_pow, Nat.zero_testBit]
    by_cases e : k = i
    · subst e; rw [hb]; rfl
    · simp [e]
  · simp only [if_true]
    apply Nat.eq_of_testBit_eq
    intro i
    rw [Nat.testBit_and, Nat.testBit_two_pow]
    by_cases e : k = i
    · subst e; rw [hb]; simp
    · simp [e]
theorem hasB_pre (bs : List UInt8) (x y : List Nat) (h : x <+: y) (hx : hasB bs x = false) : hasB bs y = false := by
  obtain ⟨t, rfl⟩ := h
  unfold hasB at *
  rw [List.all_append, hx, Bool.false_and]
set_option maxRecDepth 100000 in
set_option maxHeartbeats 2000000 in
theorem has_c (b g : Nat) (bs : List UInt8) (p : Nat) (a : Option Addr) (len cap : Nat) (l : List UInt8) (w : World) (hf : Fil w b g bs p) (hl : l.length = len) (hlm : len ≤ 1000000) (hr : Rd w a l) (ht : Tab w) (hN0 : 0 < bs.length) (hN1 : bs.length ≤ 100000000) (hp : p ≤ 64) :
    Calls Tryd.prog 20 #[.pointer (some ⟨b, 0, none⟩), .slice a len cap] w fun e w' => e = .returned (.bool (hasB bs (places l (8 * bs.length) p))) ∧ Fr No w w' := by
  refine (callsIn_wide (n := 5)).1 ?_
  refine callsIn_of_wp_marks Tryd.func20 rfl trivial ?_ rfl
  simp only [Tryd.ntmps20, List.size_toArray, List.length_cons, List.length_nil, Nat.reduceAdd, Nat.reduceSub, Array.replicate_succ, Array.replicate_zero, List.push_toArray, List.append_toArray, List.nil_append, List.cons_append]
  refine wpIn_wide.2 ?_
  have A0 := (At.new' w 28 #[.pointer (some ⟨b, 0, none⟩)] rfl).alloc (.cells #[.bool false] 4)
  have A1 := At.new' (w.alloc (.cells #[.pointer (some ⟨b, 0, none⟩)] 28)) 4 #[.bool false] (g := w.heap.size + 1) (by simp)
  have hf0 := ((Fr.refl No w).alloc (.cells #[.pointer (some ⟨b, 0, none⟩)] 28)).alloc (.cells #[.bool false] 4)
  have hS0 : ((w.alloc (.cells #[.pointer (some ⟨b, 0, none⟩)] 28)).alloc (.cells #[.bool false] 4)).heap.size = w.heap.size + 2 := by simp
  go_wp2_with fail
  generalize (w.alloc (.cells #[.pointer (some ⟨b, 0, none⟩)] 28)).alloc (.cells #[.bool false] 4) = W0 at *
  have fil0 := hf.keep hf0 (fun h => h) (fun h => h)
  obtain ⟨cc, d0, d1, _, _, _⟩ := fil0.cells
  have d2 := A0.cell 0
  simp at d2
  have CB := Lib.hid (bits_c b g bs p W0.drew (fil0.keep ((Fr.refl No W0).drew) (fun h => h) (fun h => h)) (by omega))
  have CP := Lib.hid (probesOf_s a len cap l (8 * bs.length) p W0.drew hl hlm ((hr.keep hf0).keep ((Fr.refl No W0).drew)) (fun i hi => ((hf0.drew).cell (ht i hi) (fun h => h))))
  have HA := Lib.hid A0
  have HA1 := Lib.hid A1
  have HF0 := Lib.hid hf0
  have HFil := Lib.hid hf
  have HS0 := Lib.hid hS0
  clear A0 A1 hf0 hf hS0 hr ht hl fil0
  go_region_held3 (fun w' => w'.cell? ⟨w.heap.size, 0, none⟩ = some (.pointer (some ⟨b, 0, none⟩)) ∧ w'.cell? ⟨b, 0, none⟩ = some (.int .i64 (p : Int))) (first | assumption | go_keep)
    (first
      | (go_at_call 17; refine (show Calls _ _ _ _ _ from CB.out).mono ?_; rintro e w2 ⟨rfl, rfl⟩)
      | (go_at_call 27; refine (show Calls _ _ _ _ _ from CP.out).mono ?_; rintro e w2 ⟨B1, B2, B3, B4, rfl, hf, hs, hb1, hb2, hb3, hb4⟩
         have d2 := hf.cell (p := ⟨w.heap.size, 0, none⟩) (v := .pointer (some ⟨b, 0, none⟩)) d2 (fun h => h)
         have d0 := hf.cell (p := ⟨b, 0, none⟩) (v := .int .i64 (p : Int)) d0 (fun h => h)
         have HF2 := Lib.hid hf
         clear hf))
  go_wp2_with fail
  rename_i hHeld
  clear hHeld
  refine (wpIn_wide (n := 5)).1 ?_
  obtain ⟨m, hm⟩ : ∃ m, 8 * bs.length = m := ⟨_, rfl⟩
  have hm0 : 0 < m := by omega
  have HM := Lib.hid hm
  have hf1 := HF0.out.trans ((Fr.refl No W0).drew.trans HF2.out)
  rw [hm] at hs
  have hsz : w.heap.size + 2 ≤ w2.heap.size := by
    have h3 := HF2.out.size
    have h4 := HS0.out
    have h5 : W0.drew.heap.size = W0.heap.size := rfl
    omega
  have hg : g < w.heap.size := HFil.out.lt.2
  have hb : b < w.heap.size := HFil.out.lt.1
  have hd : W0.drew.heap.size = w.heap.size + 2 := HS0.out
  rw [hd] at hb1 hb2 hb3 hb4
  have hB3 : B3 < w2.heap.size := cell_block hs.c3
  have hB4 : B4 < w2.heap.size := cell_block hs.c4
  refine wpIn_rangeFunc_ownG rfl (by omega) (gf := 38) (lb := #[.pointer (some ⟨B1, 0, none⟩), .pointer (some ⟨B2, 0, none⟩), .pointer (some ⟨B3, 0, none⟩), .pointer (some ⟨B4, 0, none⟩)]) rfl trivial (enters_of Tryd.func38 (by kernel_rfl) rfl)
    (hs.stopsF 4 (by omega) (fun k => k = w.heap.size + 1 ∨ w2.heap.size ≤ k) hm0 (by omega) hp (fun h => by omega) (fun h => by omega))
    (fun h k => h.trans k) (fun W k o o' hk _ _ _ => Fr.grown (grownBy_putObj' W k o') (fun j e => by cases e; exact .inr hk)) (Below.refl _ _) (fun _ => rfl)
    (HasI w w2 b g bs p w.heap.size m) (HasX w w2 bs w.heap.size m) (hasI_own w w2 b g bs p w.heap.size m hf1.size) (hasX_own w w2 bs w.heap.size m hf1.size)
    ⟨rfl, (HA.out.keep ((Fr.refl No W0).drew) (fun h => h)).keep HF2.out (fun h => h), (HA1.out.keep ((Fr.refl No W0).drew) (fun h => h)).keep HF2.out (fun h => h), hf1, Nat.le_refl _⟩
    (fun x => { tmps := #[.pointer (some ⟨b, 0, none⟩), .slice a len cap, .pointer (some ⟨w.heap.size, 0, none⟩), undef, .pointer (some ⟨w.heap.size + 1, 0, none⟩), .int .i64 ((x.val : Nat) : Int), .slice a len cap, .pointer (some ⟨b, 0, none⟩), .int .i64 (8 * (bs.length : Int)), .pointer (some ⟨b, 0, none⟩), .pointer (some ⟨b, 0, none⟩), .pointer (some ⟨b, 0, none⟩), .int .i64 (p : Int), seqV B1 B2 B3 B4, .int .i64 ((x.val : Nat) : Int), undef, undef, undef, undef, undef, undef, undef, undef, undef, undef, undef, undef], defers := [] }) ?assign ?body ?done ?stop
  case assign =>
    intro y x W K hK
    gi_wp2
    exact hK
  case body =>
    rintro y pre x W ⟨h1, h2, h3, h4, h5⟩ hlen
    have c2 := h2.cell 0
    have c3 := h3.cell 0
    have f3 := h3.frozen 0
    simp at c2 c3
    have hxm := x.isLt
    have fil := HFil.out.keep h4 (fun h => h) (fun h => h)
    obtain ⟨cc, _, c1, hc1, hc2, _⟩ := fil.cells
    obtain ⟨cq, fq⟩ := fil.bytes (x.val / 8) (by omega)
    have hv := u8_lt (bs.getD (x.val / 8) 0)
    have hE : 2 ^ (x.val % 8) < 2 ^ 8 := Nat.pow_lt_pow_right (by decide) (by omega)
    have hE0 : 0 < 2 ^ (x.val % 8) := Nat.pow_pos (by decide)
    have CBIT := fun w => bit_c x.val w (by omega)
    have hsn : hasB bs ((pre ++ [x]).map (·.val)) = bitB bs x.val := by rw [List.map_append, List.map_cons, List.map_nil, hasB_snoc, h1, Bool.true_and]
    have hand := and_bit (bs.getD (x.val / 8) 0).toNat (x.val % 8)
    have hbit : bitB bs x.val = (bs.getD (x.val / 8) 0).toNat.testBit (x.val % 8) := rfl
    rw [← hbit] at hand
    have h2' := Lib.hid h2
    have h3' := Lib.hid h3
    have h4' := Lib.hid h4
    have h5' := Lib.hid h5
    have HSN := Lib.hid hsn
    have hNN : bs.length ≤ 100000000 := hN1
    clear hbit h1 h2 h3 h4 h5 fil CB CP hsn
    generalize bitB bs x.val = bit at *
    generalize bs.length = N at *
    generalize x.val = q at *
    have hq8 : q / 8 < N := by omega
    generalize (bs.getD (q / 8) 0).toNat = v at *
    generalize 2 ^ (q % 8) = E at *
    have hand2 := u8_and (v : Int) (E : Int) (by omega) (by omega) (by omega) (by omega)
    rw [Int.toNat_natCast, Int.toNat_natCast, hand] at hand2
    have hw8 : IntKind.i64.wrap ((q : Int) / 8) = ((q / 8 : Nat) : Int) := by
      rw [PlainAid.i64_is]
      unfold wrap64
      omega
    generalize q / 8 = q8 at *
    have hq1 : (0 : Int) ≤ (q8 : Int) := by omega
    have hq2 : (q8 : Int) < (N : Int) := by omega
    have CBIT := Lib.hid CBIT
    have FY := Lib.hid (show bit = true → KeepsFrom w2.heap.size W W.drew ∧ Fr (fun k => k = w.heap.size + 1 ∨ w2.heap.size ≤ k) W W.drew ∧ HasI w w2 b g bs p w.heap.size m (pre ++ [x]) W.drew from fun hb =>
      ⟨(KeepsOthers.drew W).from _, ((Fr.refl No W).drew.sub (fun _ _ h => h.elim)), by rw [HSN.out, hb], h2'.out.keep ((Fr.refl No W).drew) (fun h => h), h3'.out.keep ((Fr.refl No W).drew) (fun h => h), h4'.out.drew, h5'.out⟩)
    have FN := Lib.hid (show bit = false → KeepsFrom w2.heap.size W (W.drew.setCell ⟨w.heap.size + 1, 0, none⟩ (.bool false)) ∧ HasX w w2 bs w.heap.size m .ret (pre ++ [x]) (W.drew.setCell ⟨w.heap.size + 1, 0, none⟩ (.bool false)) from fun hb =>
      ⟨((KeepsOthers.drew W).trans (KeepsOthers.setCell _ _ _)).from _, rfl, by rw [HSN.out, hb], (h3'.out.keep ((Fr.refl No W).drew) (fun h => h)).set_ 0 (.bool false), h4'.out.drew.setCell (fun h => absurd h (by simp)) _⟩)
    rcases Bool.eq_false_or_eq_true bit with hb | hb
    · rw [hb] at hand2
      have FIN := FY.out hb
      have FIN := Lib.hid FIN
      simp only [if_true, Bool.false_eq_true, if_false] at hand2
      have hE00 : ((E : Int) == 0) = false := by rw [beq_eq_false_iff_ne]; omega
      clear FY FN h2' h3' h4' h5' HSN hand
      refine wpIn_block ?_
      refine wpIn_seq ?_
      refine wpIn_region_round (S := fun w' => w'.cell? ⟨w.heap.size, 0, none⟩ = some (.pointer (some ⟨b, 0, none⟩)) ∧ w'.cell? ⟨b, 1, none⟩ = some (.slice (some ⟨g, 0, none⟩) N cc) ∧ w'.cell? ⟨g, q8, none⟩ = some (.int .u8 (v : Int))) (by kernel_rfl) (by kernel_rfl) (fun ⟨_, _, h⟩ => h) ⟨c2, c1, cq⟩ (fun hSx => ?_)
      refine take_drop (i := 0) (v := ?v0y) rfl (by kernel_rfl) (by kernel_rfl) (by kernel_rfl) (fun _ _ _ h => h) (Or.inl ⟨by rfl, ?h0y⟩) hSx ?r0y
      case h0y => (intro wS hSw; obtain ⟨s1, s2, s3⟩ := hSw; go_simp; all_goals (with_reducible rfl))
      simp only [Act.put, List.setIfInBounds_toArray, List.set_cons_zero, List.set_cons_succ]
      refine take_drop (i := 1) (v := ?v1y) rfl (by kernel_rfl) (by kernel_rfl) (by kernel_rfl) (fun _ _ _ h => h) (Or.inl ⟨by rfl, ?h1y⟩) hSx ?r1y
      case h1y => (intro wS hSw; obtain ⟨s1, s2, s3⟩ := hSw; go_simp; all_goals (with_reducible rfl))
      simp only [Act.put, List.setIfInBounds_toArray, List.set_cons_zero, List.set_cons_succ]
      refine take_drop (i := 2) (v := ?v2y) rfl (by kernel_rfl) (by kernel_rfl) (by kernel_rfl) (fun _ _ _ h => h) (Or.inl ⟨by rfl, ?h2y⟩) hSx ?r2y
      case h2y => (intro wS hSw; obtain ⟨s1, s2, s3⟩ := hSw; go_simp; all_goals (with_reducible rfl))
      simp only [Act.put, List.setIfInBounds_toArray, List.set_cons_zero, List.set_cons_succ]
      refine take_drop (i := 3) (v := ?v3y) rfl (by kernel_rfl) (by kernel_rfl) (by kernel_rfl) (fun _ _ _ h => h) (Or.inl ⟨by rfl, ?h3y⟩) hSx ?r3y
      case h3y => (intro wS hSw; obtain ⟨s1, s2, s3⟩ := hSw; go_simp; all_goals (with_reducible rfl))
      simp only [Act.put, List.setIfInBounds_toArray, List.set_cons_zero, List.set_cons_succ]
      refine take_drop (i := 4) (v := ?v4y) rfl (by kernel_rfl) (by kernel_rfl) (by kernel_rfl) (fun _ _ _ h => h) (Or.inl ⟨by rfl, ?h4y⟩) hSx ?r4y
      case h4y => (intro wS hSw; obtain ⟨s1, s2, s3⟩ := hSw; go_simp; all_goals (with_reducible rfl))
      simp only [Act.put, List.setIfInBounds_toArray, List.set_cons_zero, List.set_cons_succ]
      refine take_drop (i := 5) (v := ?v5y) rfl (by kernel_rfl) (by kernel_rfl) (by kernel_rfl) (fun _ _ _ h => h) (Or.inl ⟨by rfl, ?h5y⟩) hSx ?r5y
      case h5y => (intro wS hSw; obtain ⟨s1, s2, s3⟩ := hSw; go_simp; all_goals (with_reducible rfl))
      simp only [Act.put, List.setIfInBounds_toArray, List.set_cons_zero, List.set_cons_succ]
      refine take_drop (i := 6) (v := ?v6y) rfl (by kernel_rfl) (by kernel_rfl) (by kernel_rfl) (fun _ _ _ h => h) (Or.inl ⟨by rfl, ?h6y⟩) hSx ?r6y
      case h6y => (intro wS hSw; obtain ⟨s1, s2, s3⟩ := hSw; go_simp; all_goals (with_reducible rfl))
      simp only [Act.put, List.setIfInBounds_toArray, List.set_cons_zero, List.set_cons_succ]
      refine take_drop (i := 7) (v := ?v7y) rfl (by kernel_rfl) (by kernel_rfl) (by kernel_rfl) (fun _ _ _ h => h) (Or.inl ⟨by rfl, ?h7y⟩) hSx ?r7y
      case h7y => (intro wS hSw; obtain ⟨s1, s2, s3⟩ := hSw; go_simp; all_goals (with_reducible rfl))
      simp only [Act.put, List.setIfInBounds_toArray, List.set_cons_zero, List.set_cons_succ]
      refine take_drop (i := 8) (v := ?v8y) rfl (by kernel_rfl) (by kernel_rfl) (by kernel_rfl) (fun _ _ _ h => h) (Or.inl ⟨by rfl, ?h8y⟩) hSx ?r8y
      case h8y => (intro wS hSw; obtain ⟨s1, s2, s3⟩ := hSw; go_simp; all_goals (with_reducible rfl))
      simp only [Act.put, List.setIfInBounds_toArray, List.set_cons_zero, List.set_cons_succ]
      refine wpAnyH_ready (rs := [9]) (by kernel_rfl) (by simp) ?_
      refine do_drop (i := 9) rfl (fun K hK => ?_) AllReadyH.nil
      go_simp
      refine (CBIT.out _).mono ?_
      rintro e wc ⟨rfl, rfl⟩
      refine hK.out _ _ hSx ?_
      clear hK K
      try simp only [Act.put, List.setIfInBounds_toArray, List.set_cons_zero, List.set_cons_succ]
      refine take_drop (i := 10) (v := ?v10y) rfl (by kernel_rfl) (by kernel_rfl) (by kernel_rfl) (fun _ _ _ h => h) (Or.inl ⟨by rfl, ?h10y⟩) hSx ?r10y
      case h10y => (intro wS hSw; obtain ⟨s1, s2, s3⟩ := hSw; go_simp; all_goals (with_reducible rfl))
      simp only [Act.put, List.setIfInBounds_toArray, List.set_cons_zero, List.set_cons_succ]
      refine take_drop (i := 11) (v := ?v11y) rfl (by kernel_rfl) (by kernel_rfl) (by kernel_rfl) (fun _ _ _ h => h) (Or.inl ⟨by rfl, ?h11y⟩) hSx ?r11y
      case h11y => (intro wS hSw; obtain ⟨s1, s2, s3⟩ := hSw; go_simp; all_goals (with_reducible rfl))
      simp only [Act.put, List.setIfInBounds_toArray, List.set_cons_zero, List.set_cons_succ]
      refine wpAnyH_done (by kernel_rfl) ?_ _
      gi_wp2
      exact FIN.out
    · rw [hb] at hand2
      have FIN := FN.out hb
      have FIN := Lib.hid FIN
      simp only [if_true, Bool.false_eq_true, if_false] at hand2
      have hE00 : ((E : Int) == 0) = false := by rw [beq_eq_false_iff_ne]; omega
      clear FY FN h2' h3' h4' h5' HSN hand
      refine wpIn_block ?_
      refine wpIn_seq ?_
      refine wpIn_region_round (S := fun w' => w'.cell? ⟨w.heap.size, 0, none⟩ = some (.pointer (some ⟨b, 0, none⟩)) ∧ w'.cell? ⟨b, 1, none⟩ = some (.slice (some ⟨g, 0, none⟩) N cc) ∧ w'.cell? ⟨g, q8, none⟩ = some (.int .u8 (v : Int))) (by kernel_rfl) (by kernel_rfl) (fun ⟨_, _, h⟩ => h) ⟨c2, c1, cq⟩ (fun hSx => ?_)
      refine take_drop (i := 0) (v := ?v0n) rfl (by kernel_rfl) (by kernel_rfl) (by kernel_rfl) (fun _ _ _ h => h) (Or.inl ⟨by rfl, ?h0n⟩) hSx ?r0n
      case h0n => (intro wS hSw; obtain ⟨s1, s2, s3⟩ := hSw; go_simp; all_goals (with_reducible rfl))
      simp only [Act.put, List.setIfInBounds_toArray, List.set_cons_zero, List.set_cons_succ]
      refine take_drop (i := 1) (v := ?v1n) rfl (by kernel_rfl) (by kernel_rfl) (by kernel_rfl) (fun _ _ _ h => h) (Or.inl ⟨by rfl, ?h1n⟩) hSx ?r1n
      case h1n => (intro wS hSw; obtain ⟨s1, s2, s3⟩ := hSw; go_simp; all_goals (with_reducible rfl))
      simp only [Act.put, List.setIfInBounds_toArray, List.set_cons_zero, List.set_cons_succ]
      refine take_drop (i := 2) (v := ?v2n) rfl (by kernel_rfl) (by kernel_rfl) (by kernel_rfl) (fun _ _ _ h => h) (Or.inl ⟨by rfl, ?h2n⟩) hSx ?r2n
      case h2n => (intro wS hSw; obtain ⟨s1, s2, s3⟩ := hSw; go_simp; all_goals (with_reducible rfl))
      simp only [Act.put, List.setIfInBounds_toArray, List.set_cons_zero, List.set_cons_succ]
      refine take_drop (i := 3) (v := ?v3n) rfl (by kernel_rfl) (by kernel_rfl) (by kernel_rfl) (fun _ _ _ h => h) (Or.inl ⟨by rfl, ?h3n⟩) hSx ?r3n
      case h3n => (intro wS hSw; obtain ⟨s1, s2, s3⟩ := hSw; go_simp; all_goals (with_reducible rfl))
      simp only [Act.put, List.setIfInBounds_toArray, List.set_cons_zero, List.set_cons_succ]
      refine take_drop (i := 4) (v := ?v4n) rfl (by kernel_rfl) (by kernel_rfl) (by kernel_rfl) (fun _ _ _ h => h) (Or.inl ⟨by rfl, ?h4n⟩) hSx ?r4n
      case h4n => (intro wS hSw; obtain ⟨s1, s2, s3⟩ := hSw; go_simp; all_goals (with_reducible rfl))
      simp only [Act.put, List.setIfInBounds_toArray, List.set_cons_zero, List.set_cons_succ]
      refine take_drop (i := 5) (v := ?v5n) rfl (by kernel_rfl) (by kernel_rfl) (by kernel_rfl) (fun _ _ _ h => h) (Or.inl ⟨by rfl, ?h5n⟩) hSx ?r5n
      case h5n => (intro wS hSw; obtain ⟨s1, s2, s3⟩ := hSw; go_simp; all_goals (with_reducible rfl))
      simp only [Act.put, List.setIfInBounds_toArray, List.set_cons_zero, List.set_cons_succ]
      refine take_drop (i := 6) (v := ?v6n) rfl (by kernel_rfl) (by kernel_rfl) (by kernel_rfl) (fun _ _ _ h => h) (Or.inl ⟨by rfl, ?h6n⟩) hSx ?r6n
      case h6n => (intro wS hSw; obtain ⟨s1, s2, s3⟩ := hSw; go_simp; all_goals (with_reducible rfl))
      simp only [Act.put, List.setIfInBounds_toArray, List.set_cons_zero, List.set_cons_succ]
      refine take_drop (i := 7) (v := ?v7n) rfl (by kernel_rfl) (by kernel_rfl) (by kernel_rfl) (fun _ _ _ h => h) (Or.inl ⟨by rfl, ?h7n⟩) hSx ?r7n
      case h7n => (intro wS hSw; obtain ⟨s1, s2, s3⟩ := hSw; go_simp; all_goals (with_reducible rfl))
      simp only [Act.put, List.setIfInBounds_toArray, List.set_cons_zero, List.set_cons_succ]
      refine take_drop (i := 8) (v := ?v8n) rfl (by kernel_rfl) (by kernel_rfl) (by kernel_rfl) (fun _ _ _ h => h) (Or.inl ⟨by rfl, ?h8n⟩) hSx ?r8n
      case h8n => (intro wS hSw; obtain ⟨s1, s2, s3⟩ := hSw; go_simp; all_goals (with_reducible rfl))
      simp only [Act.put, List.setIfInBounds_toArray, List.set_cons_zero, List.set_cons_succ]
      refine wpAnyH_ready (rs := [9]) (by kernel_rfl) (by simp) ?_
      refine do_drop (i := 9) rfl (fun K hK => ?_) AllReadyH.nil
      go_simp
      refine (CBIT.out _).mono ?_
      rintro e wc ⟨rfl, rfl⟩
      refine hK.out _ _ hSx ?_
      clear hK K
      try simp only [Act.put, List.setIfInBounds_toArray, List.set_cons_zero, List.set_cons_succ]
      refine take_drop (i := 10) (v := ?v10n) rfl (by kernel_rfl) (by kernel_rfl) (by kernel_rfl) (fun _ _ _ h => h) (Or.inl ⟨by rfl, ?h10n⟩) hSx ?r10n
      case h10n => (intro wS hSw; obtain ⟨s1, s2, s3⟩ := hSw; go_simp; all_goals (with_reducible rfl))
      simp only [Act.put, List.setIfInBounds_toArray, List.set_cons_zero, List.set_cons_succ]
      refine take_drop (i := 11) (v := ?v11n) rfl (by kernel_rfl) (by kernel_rfl) (by kernel_rfl) (fun _ _ _ h => h) (Or.inl ⟨by rfl, ?h11n⟩) hSx ?r11n
      case h11n => (intro wS hSw; obtain ⟨s1, s2, s3⟩ := hSw; go_simp; all_goals (with_reducible rfl))
      simp only [Act.put, List.setIfInBounds_toArray, List.set_cons_zero, List.set_cons_succ]
      refine wpAnyH_done (by kernel_rfl) ?_ _
      gi_wp2
      exact FIN.out
  case done =>
    rintro D ys W hD rfl ⟨h1, h2, h3, h4, h5⟩ hK
    rw [placesF_val] at h1
    have c3 := h3.cell 0
    have f3 := h3.frozen 0
    simp at c3
    have hK' := (KeepsOthers.setCell W ⟨w.heap.size + 1, 0, none⟩ (.bool true)).same D _ hK rfl
    have hg := grownBy_putObj' (W.setCell ⟨w.heap.size + 1, 0, none⟩ (.bool true)) D (.deferred none)
    have hr : Turns w2.heap.size (W.setCell ⟨w.heap.size + 1, 0, none⟩ (.bool true)) (some D) := fun r e => by cases e; exact ⟨hD, _, hK', rfl⟩
    have A5 := own_at (h3.set_ 0 (.bool true)) hg hr
    have c5 := A5.cell 0
    simp at c5
    have FIN := Lib.hid (own_frS hf1.size (h4.setCell (p := ⟨w.heap.size + 1, 0, none⟩) (fun h => absurd h (by simp)) (.bool true)) hg hr)
    clear A5 hg hr h3
    gi_wp2
    go_wp2_with fail
    refine ⟨by simp, .inl ⟨_, _, rfl, run_takeDeferred hK', ?_⟩⟩
    rw [HM.out, h1]
    refine ⟨.bool true, ?_, rfl, FIN.out⟩
    simp [results, Tryd.f20, go_sem, c5]
  case stop =>
    rintro D c pre W hD hpre ⟨rfl, h2, h3, h4⟩ hK
    have h2 := hasB_pre bs _ _ (hpre.map (·.val)) h2
    rw [placesF_val] at h2
    have hg := grownBy_putObj' W D (.deferred none)
    have hr : Turns w2.heap.size W (some D) := fun r e => by cases e; exact ⟨hD, _, hK, rfl⟩
    have A5 := own_at h3 hg hr
    have c5 := A5.cell 0
    simp at c5
    have FIN := Lib.hid (own_frS hf1.size h4 hg hr)
    clear A5 hg hr h3
    gi_wp2
    refine ⟨by simp, .inl ⟨_, _, rfl, run_takeDeferred hK, ?_⟩⟩
    rw [HM.out, h2]
    refine ⟨.bool false, ?_, rfl, FIN.out⟩
    simp [results, Tryd.f20, go_sem, c5]
end Go.Proofs.YtbglicndccdaiaaDoor
