/-
  Layer 6, the program's own: contracts of asOne and Merge.
-/
import Derived.Test.YtkcgdmhggndhfaaMrD
import Derived.Test.YtkcgdmhggndhfaaHeld
namespace Go.Proofs.Ytkcgdmhggndhfaa
set_option linter.unusedVariables false
open Go.RowKit

theorem InR.take {w : World} {S : Nat → Prop} {a : Option Addr} {rs : List Rn} (h : InR w S a rs) (k : Nat) : InR w S a (rs.take k) := fun hl => by
  obtain ⟨b, o, hb, ha, hx⟩ := h (by simp at hl; omega)
  refine ⟨b, o, hb, ha, fun i x hi => hx i x ?_⟩
  rw [List.getElem?_take] at hi
  by_cases h1 : i < k
  · rwa [if_pos h1] at hi
  · rw [if_neg h1] at hi; cases hi
theorem InR.drop {w : World} {S : Nat → Prop} {a : Option Addr} {rs : List Rn} (h : InR w S a rs) (k cap : Nat) (hc : rs.length ≤ cap) : InR w S (cutAt a k cap) (rs.drop k) := fun hl => by
  have hl' : k < rs.length := by simp at hl; omega
  obtain ⟨b, o, hb, rfl, hx⟩ := h (by omega)
  refine ⟨b, o + k, hb, ?_, fun i x hi => ?_⟩
  · unfold cutAt
    rw [if_neg (by omega)]
    show some ((⟨b, o, none⟩ : Addr).add k) = _
    rw [add_at]
  · rw [List.getElem?_drop] at hi
    have := hx (k + i) x hi
    rw [← Nat.add_assoc] at this
    exact this
theorem oneP_len {rs : List Rn} (hs : ∀ x ∈ rs, x.l.length ≤ 1000) : (oneP (lens rs)).length ≤ 1000 * rs.length := by
  have key : ∀ (ls : List (List P2)) (out : List P2), (∀ l ∈ ls, l.length ≤ 1000) → (ls.foldl oneRun out).length ≤ out.length + 1000 * ls.length := by
    intro ls
    induction ls with
    | nil => intro out _; exact Nat.le_refl _
    | cons l ls ih =>
      intro out h
      have h1 := oneRun_le l out
      have h2 := h l (List.mem_cons_self ..)
      have h3 := ih (oneRun out l) (fun m hm => h m (List.mem_cons_of_mem _ hm))
      show (ls.foldl oneRun (oneRun out l)).length ≤ _
      rw [List.length_cons]
      omega
  have := key (lens rs) [] (fun m hm => by
    obtain ⟨x, hx, e⟩ := List.mem_map.1 hm
    rw [← e]
    exact hs x hx)
  have h5 : (lens rs).length = rs.length := by unfold lens; rw [List.length_map]
  rw [h5, List.length_nil] at this
  unfold oneP
  omega
theorem sizeRun : ∀ w, (sizeOf 27).run Try.prog w = .ok 1 w := fun w => by
  obtain ⟨i0, hi, _, hz1, _⟩ := info_parts rowRuns.info
  simp [sizeOf, typeInfo, hi, hz1, Result.andThen]
theorem lens_split (rs : List Rn) (h : Nat) : lens (rs.take h) ++ lens (rs.drop h) = lens rs := by
  unfold lens
  rw [← List.map_append, List.take_append_drop]
def OneRet (rs : List Rn) (w : World) (e : Ending) (w' : World) : Prop := ∃ u, e = .returned u ∧ PairsV w.heap.size (oneP (lens rs)) u w' ∧ Fr No w w'
def AsOneOK (n : Nat) : Prop := ∀ (S : Nat → Prop) (a : Option Addr) (cap : Nat) (rs : List Rn) (w : World), rs.length = n → (∀ x ∈ rs, x.l.length ≤ 1000 ∧ runP x.l = true) → n ≤ cap → cap ≤ maxLen → InR w S a rs →
    Calls Try.prog 31 #[.slice a n cap] w (OneRet rs w)
/-- Both halves told as one. -/
theorem joinRet (rs : List Rn) (h : Nat) {w w' : World} {ua ub : Value} (hs : ∀ x ∈ rs, x.l.length ≤ 1000) (hn : rs.length ≤ 100)
    (ha : PairsV w.heap.size (oneP (lens (rs.take h))) ua w') (hb : PairsV w.heap.size (oneP (lens (rs.drop h))) ub w') (f : Fr No w w') :
    Calls Try.prog 46 #[ua, ub] w' (OneRet rs w) := by
  obtain ⟨a1, c1, rfl, h1, m1, i1⟩ := ha
  obtain ⟨a2, c2, rfl, h2, m2, i2⟩ := hb
  have b1 := oneP_len (rs := rs.take h) (fun x hx => hs x (List.mem_of_mem_take hx))
  have b2 := oneP_len (rs := rs.drop h) (fun x hx => hs x (List.mem_of_mem_drop hx))
  have e1 : (rs.take h).length ≤ 100 := by rw [List.length_take]; omega
  have e2 : (rs.drop h).length ≤ 100 := by rw [List.length_drop]; omega
  refine (twoAsOne_c _ _ a1 a2 c1 c2 _ _ w' (by omega) (by omega) h1 h2 m1 m2 i1 i2).mono ?_
  rintro e w2 ⟨u, rfl, ⟨b, c, rfl, h3, h4, h5⟩, f2⟩
  rw [mg2_one, lens_split] at h3 h5
  refine ⟨_, rfl, ⟨b, c, by rw [mg2_one, lens_split], h3, h4, h5.sub fun k _ hk => Nat.le_trans f.size hk⟩, f.trans f2⟩
set_option maxRecDepth 20000 in
set_option maxHeartbeats 3200000 in
theorem asOne_c : ∀ n : Nat, n ≤ 100 → AsOneOK n := by
  intro n
  induction n using Nat.strongRecOn with
  | ind n ih =>
    intro hn100 S a cap rs w hlen hok hcap hmax hr
    have HIH := Lib.hid ih
    clear ih
    have HN100 : Hid (rs.length ≤ 100) := Lib.hid (by omega)
    have HSZ := Lib.hid (fun x (hx : x ∈ rs) => (hok x hx).1)
    have HOK := Lib.hid hok
    have HR0 := Lib.hid hr
    have HLN := Lib.hid hlen
    have HMAX := Lib.hid hmax
    clear hok hr hlen
    unfold maxLen at hmax
    go_enter Try.func31, Try.ntmps31
    rcases Nat.lt_or_ge n 2 with h2 | h2
    · rcases Nat.eq_zero_or_pos n with h0 | h0
      · subst h0
        have e0 : rs = [] := List.eq_nil_of_length_eq_zero HLN.out
        subst e0
        go_wp2_with fail
        go_ret
        exact ⟨_, rfl, ⟨none, 0, rfl, Nat.le_refl _, by simp [maxLen], InP.nil _ _ _⟩, Fr.refl _ _⟩
      · obtain rfl : n = 1 := by omega
        obtain ⟨x, hx⟩ := List.length_eq_one_iff.1 HLN.out
        subst hx
        obtain ⟨b, o, _, rfl, hat⟩ := HR0.out (by simp)
        have hx0 := hat 0 x rfl
        have c0 : w.cell? ⟨b, o, none⟩ = some (.slice x.a x.l.length x.c) := hx0.c0
        obtain ⟨hx1, hx2⟩ := HOK.out x (by simp)
        have HCL := Lib.hid (cloneRun_c S x.a x.c x.l w (by omega) hx0.rd)
        have HE : Hid (oneP (lens [x]) = x.l) := Lib.hid (group_one (runP_iff.1 hx2))
        clear hat hx0 hx1 hx2
        obtain ⟨xa, hxa⟩ : ∃ m, x.a = m := ⟨_, rfl⟩
        obtain ⟨xc, hxc⟩ : ∃ m, x.c = m := ⟨_, rfl⟩
        obtain ⟨m, hm⟩ : ∃ m, x.l.length = m := ⟨_, rfl⟩
        rw [hxa, hxc, hm] at c0 HCL
        clear hxa hxc hm
        go_wp2_with fail
        refine HCL.out.mono ?_
        rintro e w1 ⟨u, rfl, hu, f1⟩
        have HU := Lib.hid hu
        have HF1 := Lib.hid f1
        clear hu f1
        go_wp2_with fail
        go_ret
        exact ⟨_, rfl, by rw [HE.out]; exact HU.out, HF1.out⟩
    · have d0 : ((n : Int) == 0) = false := by rw [beq_eq_false_iff_ne]; omega
      have d1 : ((n : Int) == 1) = false := by rw [beq_eq_false_iff_ne]; omega
      obtain ⟨h, hh⟩ : ∃ h, n / 2 = h := ⟨_, rfl⟩
      have e1 : ((n : Int)).tdiv 2 = (h : Int) := by rw [Int.tdiv_eq_ediv_of_nonneg (by omega)]; omega
      have e2 : (n : Int) / 2 = (h : Int) := by omega
      have h1 : 0 < h := by omega
      have h3 : h < n := by omega
      have HL : Hid (∀ w', Fr No w w' → Calls Try.prog 31 #[.slice a h cap] w' (OneRet (rs.take h) w')) := Lib.hid fun w' f =>
        HIH.out h h3 (by omega) S a cap (rs.take h) w' (by rw [List.length_take, HLN.out]; omega) (fun x hx => HOK.out x (List.mem_of_mem_take hx)) (by omega) HMAX.out ((HR0.out.take h).keep f (fun _ _ h => h))
      have HR : Hid (∀ w', Fr No w w' → Calls Try.prog 31 #[.slice (cutAt a h cap) (n - h) (cap - h)] w' (OneRet (rs.drop h) w')) := Lib.hid fun w' f =>
        HIH.out (n - h) (by omega) (by omega) S _ (cap - h) (rs.drop h) w' (by rw [List.length_drop, HLN.out]) (fun x hx => HOK.out x (List.mem_of_mem_drop hx)) (by omega) (Nat.le_trans (Nat.sub_le ..) HMAX.out) ((HR0.out.drop h cap (by rw [HLN.out]; exact hcap)).keep f (fun _ _ h => h))
      have s1 := cut_hi (P := Try.prog) Try.underlying25 sizeRun a n cap h (by omega)
      have s2 := cut_lo (P := Try.prog) Try.underlying25 sizeRun a n cap h (by omega)
      have HF0 := Lib.hid ((Fr.refl No w).drew)
      clear hh HIH HR0
      go_wp2_with fail
      refine wp_region_held_drew (S := fun _ => True) (by kernel_rfl) trivial (fun hHeld => ?_)
      refine take_drop (i := 0) (v := ?v0) rfl (by kernel_rfl) (by kernel_rfl) (by kernel_rfl) (fun _ _ _ h => h) (Or.inl ⟨by rfl, ?h0⟩) trivial ?r0
      case h0 => (intro wS hSw; go_simp; all_goals (with_reducible rfl))
      simp only [Act.put, List.setIfInBounds_toArray, List.set_cons_zero, List.set_cons_succ]
      refine take_drop (i := 1) (v := ?v1) rfl (by kernel_rfl) (by kernel_rfl) (by kernel_rfl) (fun _ _ _ h => h) (Or.inl ⟨by rfl, ?h1⟩) trivial ?r1
      case h1 => (intro wS hSw; go_simp; all_goals (with_reducible rfl))
      simp only [Act.put, List.setIfInBounds_toArray, List.set_cons_zero, List.set_cons_succ]
      refine take_drop (i := 2) (v := ?v2) rfl (by kernel_rfl) (by kernel_rfl) (by kernel_rfl) (fun _ _ _ h => h) (Or.inl ⟨by rfl, ?h2⟩) trivial ?r2
      case h2 => (intro wS hSw; go_simp; all_goals (with_reducible rfl))
      simp only [Act.put, List.setIfInBounds_toArray, List.set_cons_zero, List.set_cons_succ]
      refine take_drop (i := 4) (v := ?v4) rfl (by kernel_rfl) (by kernel_rfl) (by kernel_rfl) (fun _ _ _ h => h) (Or.inl ⟨by rfl, ?h4⟩) trivial ?r4
      case h4 => (intro wS hSw; go_simp; all_goals (with_reducible rfl))
      simp only [Act.put, List.setIfInBounds_toArray, List.set_cons_zero, List.set_cons_succ]
      refine take_drop (i := 5) (v := ?v5) rfl (by kernel_rfl) (by kernel_rfl) (by kernel_rfl) (fun _ _ _ h => h) (Or.inl ⟨by rfl, ?h5⟩) trivial ?r5
      case h5 => (intro wS hSw; go_simp; all_goals (with_reducible rfl))
      simp only [Act.put, List.setIfInBounds_toArray, List.set_cons_zero, List.set_cons_succ]
      refine take_drop (i := 6) (v := ?v6) rfl (by kernel_rfl) (by kernel_rfl) (by kernel_rfl) (fun _ _ _ h => h) (Or.inl ⟨by rfl, ?h6⟩) trivial ?r6
      case h6 => (intro wS hSw; go_simp; all_goals (with_reducible rfl))
      simp only [Act.put, List.setIfInBounds_toArray, List.set_cons_zero, List.set_cons_succ]
      refine wpAnyH_ready (rs := [3]) (by kernel_rfl) (by simp) ?_
      refine do_drop (i := 3) rfl (fun K hK => ?_) AllReadyH.nil
      go_simp
      refine (HL.out _ HF0.out).mono ?_
      rintro e w1 ⟨u3, rfl, hA, f1⟩
      have HA := Lib.hid hA
      have HF1 := Lib.hid (HF0.out.trans f1)
      clear hA f1
      refine hK.out _ _ trivial ?_
      clear hK K
      try simp only [Act.put, List.setIfInBounds_toArray, List.set_cons_zero, List.set_cons_succ]
      refine wpAnyH_ready (rs := [7]) (by kernel_rfl) (by simp) ?_
      refine do_drop (i := 7) rfl (fun K hK => ?_) AllReadyH.nil
      go_simp
      refine (HR.out _ HF1.out).mono ?_
      rintro e w2 ⟨u7, rfl, hB, f2⟩
      have HB := Lib.hid (hB.mono HF1.out.size)
      have HA2 := Lib.hid ((HA.out.mono HF0.out.size).keep f2)
      have HF2 := Lib.hid (HF1.out.trans f2)
      clear hB f2
      refine hK.out _ _ trivial ?_
      clear hK K
      try simp only [Act.put, List.setIfInBounds_toArray, List.set_cons_zero, List.set_cons_succ]
      refine wpAnyH_ready (rs := [8]) (by kernel_rfl) (by simp) ?_
      refine do_drop (i := 8) rfl (fun K hK => ?_) AllReadyH.nil
      go_simp
      refine (joinRet rs h HSZ.out HN100.out HA2.out HB.out HF2.out).mono ?_
      rintro e w3 ⟨u, rfl, hu, f3⟩
      have HU := Lib.hid hu
      have HF3 := Lib.hid f3
      clear hu f3
      refine hK.out _ _ trivial ?_
      clear hK K
      try simp only [Act.put, List.setIfInBounds_toArray, List.set_cons_zero, List.set_cons_succ]
      refine take_drop (i := 9) (v := ?v9a) rfl (by kernel_rfl) (by kernel_rfl) (by kernel_rfl) (fun _ _ _ h => h) (Or.inl ⟨by rfl, ?h9a⟩) trivial ?r9a
      case h9a => (intro wS hSw; go_simp; all_goals (with_reducible rfl))
      simp only [Act.put, List.setIfInBounds_toArray, List.set_cons_zero, List.set_cons_succ]
      refine wpAnyH_done (by kernel_rfl) ?_ _
      go_wp2_with fail
      go_ret
      exact ⟨_, rfl, HU.out, HF3.out⟩
theorem okN_ne {rs : List Rn} (h : runsR rs = false) : okN (runsR rs) = 31 := by rw [h]; rfl
set_option maxRecDepth 20000 in
set_option maxHeartbeats 1600000 in
theorem merge_c (S : Nat → Prop) (a : Option Addr) (cap : Nat) (rs : List Rn) (w : World) (hl : rs.length ≤ 100) (hs : ∀ x ∈ rs, x.l.length ≤ 1000) (hc : rs.length ≤ cap) (hm : cap ≤ maxLen) (hr : InR w S a rs) :
    Calls Try.prog 12 #[.slice a rs.length cap] w (MergeRet rs w) := by
  have HCK := Lib.hid (checkAll_c S a cap rs w (by omega) hs hr)
  cases h : runsR rs with
  | false =>
    rw [h] at HCK
    have HH := Lib.hid h
    clear h hr
    generalize hn : rs.length = n at *
    go_enter Try.func12, Try.ntmps12
    go_wp2_with fail
    refine HCK.out.mono ?_
    rintro e w1 ⟨rfl, f1⟩
    have HF1 := Lib.hid f1
    clear f1
    unfold okN
    go_wp2_with fail
    go_ret2
    refine ⟨none, 0, [], ?_, Nat.le_refl _, by simp [maxLen], InP.nil _ _ _, by rw [HH.out]; rfl, HF1.out⟩
    rw [HH.out]
    rfl
  | true =>
    rw [h] at HCK
    have HAS : Hid (∀ w', Fr No w w' → Calls Try.prog 31 #[.slice a rs.length cap] w' (OneRet rs w')) := Lib.hid fun w' f =>
      asOne_c rs.length (by omega) S a cap rs w' rfl (fun x hx => ⟨hs x hx, by
        unfold runsR at h
        rw [List.all_eq_true] at h
        exact h x hx⟩) hc hm (hr.keep f (fun _ _ h => h))
    have HH := Lib.hid h
    clear h hr
    generalize hn : rs.length = n at *
    go_enter Try.func12, Try.ntmps12
    go_wp2_with fail
    refine HCK.out.mono ?_
    rintro e w1 ⟨rfl, f1⟩
    have HF1 := Lib.hid f1
    clear f1
    unfold okN
    go_wp2_with fail
    refine (HAS.out _ HF1.out).mono ?_
    rintro e w2 ⟨u, rfl, ⟨b, c, rfl, h1, h2, h3⟩, f2⟩
    have HF2 := Lib.hid (HF1.out.trans f2)
    have HI := Lib.hid (h3.sub (T := From w.heap.size) fun k _ hk => Nat.le_trans HF1.out.size hk)
    have H1 := Lib.hid h1
    have H2 := Lib.hid h2
    clear f2 h3 h1 h2
    obtain ⟨L, hL⟩ : ∃ l, oneP (lens rs) = l := ⟨_, rfl⟩
    rw [hL] at HI H1
    rw [hL]
    have HLL := Lib.hid hL
    clear hL
    go_wp2_with fail
    go_ret2
    refine ⟨b, c, L, ?_, H1.out, H2.out, HI.out, ?_, HF2.out⟩
    · rw [HH.out]; rfl
    · rw [HH.out, if_pos rfl, HLL.out]
theorem mergeOK : MergeOK where
  check := fun S a cap l w h1 _ _ hr => check_c S a cap l w (by omega) hr
  merge := fun S a cap rs w h1 h2 h3 h4 hr => merge_c S a cap rs w (by omega) (fun x hx => by have := h2 x hx; omega) h3 h4 hr
  find := fun S a cap l k w h1 _ _ h4 hr => find_c S a cap l k w (by omega) h4 hr
end Go.Proofs.Ytkcgdmhggndhfaa
