/-
  Layer 8, the program's own table: slices.Collect over the zones of a role, List.
-/
import Derived.Test.YtmkadpjacidlkaaArG
import Derived.Test.YtmkadpjacidlkaaArE
namespace Go.Proofs.Ytmkadpjacidlkaa
set_option linter.unusedVariables false
open Go.RowKit Go.Shelf
attribute [local go_sem] Oper.semAt_some

/-- What the rounds of AppendSeq keep. -/
def AsI (w w1 : World) (r : List Nat) (x : Int) (pre : List (Zx r x)) (W : World) : Prop := ∃ v, At W w.heap.size 29 #[v] ∧ RowI W (Own1 v) v (qs (pre.map (·.val))) ∧ (∀ k, v.ownBlock = some k → w1.heap.size ≤ k) ∧ Fr No w W ∧ w1.heap.size ≤ W.heap.size ∧ pre.length ≤ 64
theorem asI_own (w w1 : World) (r : List Nat) (x : Int) (h : w.heap.size ≤ w1.heap.size) : OwnFrom w1.heap.size (AsI w w1 r x) := fun pre W W' row ⟨v, h1, h2, h3, h4, h5, h6⟩ hg hr =>
  ⟨v, own_at h1 hg hr, own_rowI h2 hg hr, h3, own_fr h h4 hg hr, Nat.le_trans h5 hg.size, h6⟩
set_option maxRecDepth 100000 in
set_option maxHeartbeats 2000000 in
theorem appendSeq_c (B1 B2 t g : Nat) (r : List Nat) (x : Int) (w : World) (hs : SeqZ w B1 B2 t g r x) (hg : g < w.heap.size) (hr64 : r.length ≤ 64) :
    Calls Try.prog 47 #[.slice none 0 0, seqZ B1 B2] w (IntsRet ((zl r x r.length).map (·.val)) w) := by
  have HQ := Lib.hid hs
  refine (callsIn_wide (n := 5)).1 ?_
  refine callsIn_of_wp_marks Try.func47 rfl trivial ?_ rfl
  simp only [Try.ntmps47, List.size_toArray, List.length_cons, List.length_nil, Nat.reduceAdd, Nat.reduceSub, Array.replicate_succ, Array.replicate_zero, List.push_toArray, List.append_toArray, List.nil_append, List.cons_append]
  have A0 : At _ w.heap.size _ _ := At.new w 29 #[.slice none 0 0]
  have hf1 := (Fr.refl No w).alloc (.cells #[.slice none 0 0] 29)
  have hb2 : B2 < w.heap.size := cell_block hs.b2

  have ht : t < w.heap.size := cell_block hs.c0
  clear hs
  gi_wp2
  have HS0 := Lib.hid (show (w.alloc (.cells #[.slice none 0 0] 29)).heap.size = w.heap.size + 1 by simp)
  generalize w.alloc (.cells #[.slice none 0 0] 29) = w1 at *



  refine wpIn_rangeFunc_ownG rfl (by omega) (gf := 42) (lb := #[.pointer (some ⟨B1, 0, none⟩), .pointer (some ⟨B2, 0, none⟩)]) rfl trivial (enters_of Try.func42 (by kernel_rfl) rfl)
    ((HQ.out.keep hf1).stops 4 (by omega) (fun k => k = w.heap.size ∨ w1.heap.size ≤ k) hr64 (fun h => by have := HS0.out; omega) (fun h => by have := HS0.out; omega))
    (fun h k => h.trans k) (fun W k o o' hk _ _ _ => Fr.grown (grownBy_putObj' W k o') (fun j e => by cases e; exact .inr hk)) (Below.refl _ _) (fun _ => rfl)
    (AsI w w1 r x) (fun _ _ _ => False) (asI_own w w1 r x hf1.size) (fun _ _ _ _ _ hs _ _ => hs)
    ⟨.slice none 0 0, A0, RowI.nil _ _, (fun k hk => by cases hk), hf1, Nat.le_refl _, by simp⟩
    (fun z => { tmps := #[.slice none 0 0, seqZ B1 B2, .pointer (some ⟨w.heap.size, 0, none⟩), undef, .slice none 0 0, .int .i64 ((z.val : Nat) : Int), seqZ B1 B2, .int .i64 ((z.val : Nat) : Int), undef, undef, undef, undef, undef], defers := [] }) ?assign ?body ?done ?stop
  case assign =>
    intro y z W K hK
    gi_wp2
    exact hK
  case body =>
    rintro y pre z W ⟨v, h1, h2, h3, h4, h5, h6⟩ hlen
    obtain ⟨v1, w2, hrun, hrow1, hfr1⟩ := h2.push (fun k hk => (h2.1.lt k hk).2) ((z.val : Nat) : Int) (by simp [qs]; omega)
    have hno : ¬ Own1 v w.heap.size := fun h => by
      have := h3 _ h
      have := hf1.size
      have := HS0.out
      omega
    have g1 := h1.keep hfr1 hno
    have c0 := h1.cell 0
    have c1 := g1.cell 0
    have f1 := g1.frozen 0
    rw [show qs (pre.map (·.val)) ++ [((z.val : Nat) : Int)] = qs ((pre ++ [z]).map (·.val)) by simp [qs]] at hrow1
    obtain ⟨sa, sc, hv1, _⟩ := hrow1.form
    obtain ⟨sn, hsn⟩ : ∃ sn, (qs ((pre ++ [z]).map (·.val))).length = sn := ⟨_, rfl⟩
    rw [hsn] at hv1
    clear hsn
    simp at c0 c1
    have HRUN := Lib.hid hrun
    have hnew : ∀ k, v1.ownBlock = some k → w1.heap.size ≤ k := fun k hk => by
      rcases hrow1.2 k hk with h | h
      · exact h3 k h
      · omega
    have HK := Lib.hid ((h2.others hfr1).trans (KeepsOthers.setCell w2 ⟨w.heap.size, 0, none⟩ v1))
    have HT := Lib.hid (show Fr (fun k => k = w.heap.size ∨ w1.heap.size ≤ k) W (w2.setCell ⟨w.heap.size, 0, none⟩ v1) from
      (hfr1.sub (fun k _ hk => .inr (h3 k hk))).setCell (fun _ => .inl rfl) v1)
    have HI := Lib.hid (show AsI w w1 r x (pre ++ [z]) (w2.setCell ⟨w.heap.size, 0, none⟩ v1) from
      ⟨v1, g1.set_ 0 v1, hrow1.own.keep ((Fr.refl (One w.heap.size) w2).setCell (p := ⟨w.heap.size, 0, none⟩) (fun _ => rfl) v1) (fun k hk h => by
        have h1 := hnew k hk
        have h2 := hf1.size
        have h3 := HS0.out
        have h4 := A0.lt
        have h5 : k = w.heap.size := h
        omega), hnew, (h4.then_ hfr1 (fun k hk h => by
          have h1 := h3 k h
          have h2 := hf1.size
          omega)).setCell (fun h => absurd h (Nat.lt_irrefl _)) v1, by
        have := hfr1.size
        simp [World.setCell]
        omega, by simp; omega⟩)
    subst hv1
    clear hrun hrow1 hfr1 h1 h2 h3 h4 h5 g1 hno hnew
    generalize ((z.val : Nat) : Int) = zv at *
    gi_wp2_with (gi_at_builtin; refine wpListIn_append_run rfl _ _ 29 rfl rfl rfl HRUN.out ?_)
    exact ⟨HK.out.from _, HT.out, HI.out⟩
  case done =>
    rintro D ys W hD rfl ⟨v, h1, h2, h3, h4, h5, h6⟩ hK
    have c0 := h1.cell 0
    simp at c0
    gi_wp2
    refine ⟨by simp, .inl ⟨_, _, rfl, run_takeDeferred hK, ?_⟩⟩
    have hg := grownBy_putObj' W D (.deferred none)
    have hr : Turns w1.heap.size W (some D) := fun r e => by cases e; exact ⟨hD, _, hK, rfl⟩
    have k2 := own_rowI h2 hg hr
    have k4 := own_fr hf1.size h4 hg hr
    exact ⟨_, results_tmp rfl _ _ _, intsRet_of k2 (fun y hy => by
      obtain ⟨z, _, rfl⟩ := List.mem_map.1 hy
      have := z.2.1
      omega) k4⟩
  case stop =>
    rintro D c pre W _ _ h _
    exact h.elim
set_option maxHeartbeats 400000 in
theorem collect_c (B1 B2 t g : Nat) (r : List Nat) (x : Int) (w : World) (hs : SeqZ w B1 B2 t g r x) (hg : g < w.heap.size) (hr64 : r.length ≤ 64) (l : List Nat) (hl : (zl r x r.length).map (·.val) = l) :
    Calls Try.prog 40 #[seqZ B1 B2] w (IntsRet l w) := by
  have C1 := Lib.hid (appendSeq_c B1 B2 t g r x w hs hg hr64)
  rw [hl] at C1
  clear hs hl
  go_enter Try.func40, Try.ntmps40
  go_wp2_with fail
  refine C1.out.mono ?_
  rintro e w1 ⟨a1, c1, rfl, k1, k2, k3, k4⟩
  have HN : Hid (IntsRet l w (.returned (.slice a1 l.length c1)) w1) := Lib.hid ⟨a1, c1, rfl, k1, k2, k3, k4⟩
  clear k1 k2 k3 k4 C1
  generalize l.length = n2 at *
  go_wp2_with fail
  go_ret
  exact HN.out
set_option maxHeartbeats 800000 in
theorem list_c {w : World} {t : Nat} {F : Nat → Prop} {b : Tb} (h : Ta w t F b) (hw : WT b) (x : Int) : Calls Try.prog 25 #[.pointer (some ⟨t, 0, none⟩), .int .i64 x] w (IntsRet (listT b x) w) := by
  obtain ⟨h0, g, a, c, h1, h2, h3, h4⟩ := h
  have CZ := Lib.hid (zonesOf_c h1 x)
  have CC := Lib.hid (fun (B1 B2 : Nat) (w' : World) (hs : SeqZ w' B1 B2 t g b.r x) (f : Fr No w w') => collect_c B1 B2 t g b.r x w' hs (Nat.lt_of_lt_of_le (h0 g h3) f.size) hw.n64 (listT b x) (zl_val b.r x b.r.length (Nat.le_refl _)))
  generalize listT b x = l at *
  clear h0 h1 h2 h3 h4 hw
  go_enter Try.func25, Try.ntmps25
  go_wp2_with fail
  refine CZ.out.mono ?_
  rintro e w1 ⟨B1, B2, rfl, f1, hs, _, _⟩
  have C2 := Lib.hid (CC.out B1 B2 w1 hs f1)
  have HF := Lib.hid f1
  clear f1 hs CC CZ
  go_wp2_with fail
  refine C2.out.mono ?_
  rintro e w2 ⟨a1, c1, rfl, k1, k2, k3, k4⟩
  have HN : Hid (IntsRet l w (.returned (.slice a1 l.length c1)) w2) := Lib.hid ⟨a1, c1, rfl, k1, k2, k3, HF.out.trans k4⟩
  clear k1 k2 k3 k4 C2
  generalize l.length = n2 at *
  go_wp2_with fail
  go_ret
  exact HN.out
end Go.Proofs.Ytmkadpjacidlkaa
