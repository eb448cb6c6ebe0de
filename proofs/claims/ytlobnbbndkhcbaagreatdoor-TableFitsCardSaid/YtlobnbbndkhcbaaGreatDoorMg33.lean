/-
  Texts of layer 13 and of what it stands on, one behind the other.
-/
import Derived.Test.YtlobnbbndkhcbaaGreatDoorMg32
import Derived.Test.YtlobnbbndkhcbaaGreatDoorMg20
import Derived.Test.YtlobnbbndkhcbaaGreatDoorMg26

/- Layer 13, the program's own: slices.Collect at pairs. -/
namespace Go.Proofs.YtlobnbbndkhcbaaGreatDoor
set_option linter.unusedVariables false
open Go.RowKit Go.Shelf
attribute [local go_sem] Oper.semAt_some

theorem rowPr : RowT Tryz.prog 71 74 (.agg #[.string ⟨#[]⟩, .string ⟨#[]⟩]) 2 32 := ⟨Tryz.underlying71, by kernel_rfl, rfl, by decide⟩
/-- What the rounds of a collection of pairs keep. -/
def ClI (w w1 : World) (L : List Pr) (pre : List (Plc L.length)) (W : World) : Prop :=
  ∃ v, At W w.heap.size 71 #[v] ∧ RowG W (Own1 v) 74 2 v (pl L pre).length (prsC (pl L pre)) ∧ (∀ k, v.ownBlock = some k → w1.heap.size ≤ k) ∧ Fr No w W ∧ w1.heap.size ≤ W.heap.size
theorem own_clI (w w1 : World) (L : List Pr) (h : w.heap.size ≤ w1.heap.size) : OwnFrom w1.heap.size (ClI w w1 L) := fun pre W W' row ⟨v, h1, h2, h3, h4, h5⟩ hg hr =>
  ⟨v, own_at h1 hg hr, own_rowG h2 hg hr, h3, own_fr h h4 hg hr, Nat.le_trans h5 hg.size⟩
/-- A row of pairs of the call's own comes back. -/
def NewPrs (L : List Pr) (w : World) (e : Ending) (w' : World) : Prop := ∃ v, e = .returned v ∧ RowG w' (Gr No w w') 74 2 v L.length (prsC L) ∧ Fr No w w'
set_option maxRecDepth 100000 in
set_option maxHeartbeats 2000000 in
theorem appendSeqP_c (gf : Nat) (lb : Array Value) (L : List Pr) (w : World) (eg : ∀ args w, (callFunc gf args).run Tryz.prog w = .ok (.enter gf args) w) (hlen : L.length ≤ 100000)
    (hseq : ∀ w1, Fr No w w1 → TellsS gf lb L (fun k => k < w.heap.size) w1) :
    Calls Tryz.prog 64 #[.slice none 0 0, .func (.func gf) #[] lb] w (NewPrs L w) := by
  refine (callsIn_wide (n := 5)).1 ?_
  refine callsIn_of_wp_marks Tryz.func64 rfl trivial ?_ rfl
  simp only [Tryz.ntmps64, List.size_toArray, List.length_cons, List.length_nil, Nat.reduceAdd, Nat.reduceSub, Array.replicate_succ, Array.replicate_zero, List.push_toArray, List.append_toArray, List.nil_append, List.cons_append]
  have A0 : At _ w.heap.size _ _ := At.new w 71 #[.slice none 0 0]
  have hf1 := (Fr.refl No w).alloc (.cells #[.slice none 0 0] 71)
  have HSQ := Lib.hid (hseq _ hf1)
  clear hseq
  gi_wp2
  have HS0 := Lib.hid (show (w.alloc (.cells #[.slice none 0 0] 71)).heap.size = w.heap.size + 1 by simp)
  generalize w.alloc (.cells #[.slice none 0 0] 71) = w1 at *
  refine wpIn_rangeFunc_ownH rfl (by omega) (gf := gf) (lb := lb) rfl trivial eg HSQ.out
    (fun h k => h.trans k) (fun W k o o' hk h1 h2 _ => Ks.put W k o' (by have := HS0.out; omega)) (Below.refl _ _) (fun _ => rfl)
    (ClI w w1 L) (fun _ _ _ => False) (own_clI w w1 L hf1.size) (fun _ _ _ _ _ hs _ _ => hs)
    ⟨.slice none 0 0, A0, RowG.nil _ _ _ _, (fun k hk => by cases hk), hf1, Nat.le_refl _⟩
    (fun z a' W => ∃ O, a' = { tmps := #[.slice none 0 0, .func (.func gf) #[] lb, .pointer (some ⟨w.heap.size, 0, none⟩), undef, .slice none 0 0, .pointer (some ⟨O, 0, none⟩), .func (.func gf) #[] lb, prV (L.getD z.val pr0), undef, undef, undef, undef, undef], defers := [] } ∧ At W O 74 #[.string (L.getD z.val pr0).key, .string (L.getD z.val pr0).val] ∧ w1.heap.size ≤ O)
    (fun z a' => fun _ W W' row ⟨O, h1, h2, h3⟩ hg hr => ⟨O, h1, own_at h2 hg hr, h3⟩) ?assign ?body ?done ?stop
  case assign =>
    rintro y pre z W K ⟨v, h1, h2, h3, h4, h5⟩ hK
    obtain ⟨x, hx⟩ : ∃ x, L.getD z.val pr0 = x := ⟨_, rfl⟩
    rw [hx] at hK ⊢
    obtain ⟨W3, hW3⟩ : ∃ W3, W.alloc (.cells #[.string x.key, .string x.val] 74) = W3 := ⟨_, rfl⟩
    have hf3 : Fr No W W3 := by rw [← hW3]; exact (Fr.refl No W).alloc _
    have hat : At W3 W.heap.size 74 #[.string x.key, .string x.val] := by rw [← hW3]; exact At.new _ _ _
    have HK1 := Lib.hid (fun a' ee => hK a' W3 (by rw [← hW3]; exact (KeepsOthers.alloc _ _).from _) (Ks.of_fr hf3 (fun _ _ h => h)) ⟨v, h1.keep hf3 (fun h => h), h2.keep hf3 (fun _ _ h => h), h3, h4.trans hf3, Nat.le_trans h5 hf3.size⟩ ⟨W.heap.size, ee, hat, h5⟩)
    have HW3 := Lib.hid hW3
    clear hK h1 h2 h3 h4 h5 hW3 hf3 hat
    unfold prV
    gi_wp2
    rw [HW3.out]
    exact HK1.out _ rfl
  case body =>
    rintro y pre z a2 W hy hl ⟨v, h1, h2, h3, h4, h5⟩ ⟨O, rfl, hat, hO⟩ hpre
    obtain ⟨x, hx⟩ : ∃ x, L.getD z.val pr0 = x := ⟨_, rfl⟩
    rw [hx] at hat ⊢
    have hpx : pl L (pre ++ [z]) = pl L pre ++ [x] := by rw [pl_app, hx]
    have hpl : (pl L pre).length < L.length := by rw [pl_len]; exact hpre
    have hb : ((pl L pre).length + 1) * 32 ≤ 100001 * 32 := Nat.mul_le_mul_right _ (by omega)
    obtain ⟨v1, w2, hrun, hrow, hfr⟩ := RowG.push rowPr h2 (fun k hk => (h2.1.lt k hk).2) (prC x) rfl (by intro u hu; simp [prC] at hu; rcases hu with rfl | rfl <;> rfl) (by omega) (by omega)
    have hno : ¬ Own1 v w.heap.size := fun h => by
      have := h3 _ h
      have := hf1.size
      have := HS0.out
      omega
    have g1 := h1.keep hfr hno
    have c0 := h1.cell 0
    have c1 := g1.cell 0
    have f1 := g1.frozen 0
    have o0 := hat.cell 0
    have o1 := hat.cell 1
    simp at c0 c1 o0 o1
    obtain ⟨sa, sc, hv1, _⟩ := hrow.form
    obtain ⟨va, vn, vc, rfl⟩ : ∃ va vn vc, v = .slice va vn vc := by
      obtain ⟨va, vc, e, _⟩ := h2.form
      exact ⟨va, _, vc, e⟩
    obtain ⟨sn, hsn⟩ : ∃ sn, (pl L pre).length + 1 = sn := ⟨_, rfl⟩
    rw [hsn] at hv1
    have HRUN := Lib.hid hrun
    have hnew : ∀ k, v1.ownBlock = some k → w1.heap.size ≤ k := fun k hk => by
      rcases hrow.2 k hk with h | h
      · exact h3 k h
      · omega
    have fst := (Fr.refl (One w.heap.size) w2).setCell (p := ⟨w.heap.size, 0, none⟩) (fun _ => rfl) v1
    have HK := Lib.hid (((h2.others hfr).trans (KeepsOthers.setCell w2 ⟨w.heap.size, 0, none⟩ v1)).from w1.heap.size)
    have HT : Hid (Ks (fun k => k < w.heap.size) W (w2.setCell ⟨w.heap.size, 0, none⟩ v1)) := Lib.hid ((Ks.of_fr hfr (fun k hk h => by have := h3 k h; have := hf1.size; have hk : k < w.heap.size := hk; omega)).trans (Ks.of_fr fst (fun k hk h => by have h : k = w.heap.size := h; have hk : k < w.heap.size := hk; omega)))
    have HI : Hid (ClI w w1 L (pre ++ [z]) (w2.setCell ⟨w.heap.size, 0, none⟩ v1)) := Lib.hid (by
      unfold ClI
      rw [hpx, prsC_append, List.length_append]
      refine ⟨v1, g1.set_ 0 v1, ?_, hnew, (h4.then_ hfr (fun k hk h => by
          have h1 := h3 k h
          have h2 := hf1.size
          omega)).setCell (fun h => absurd h (Nat.lt_irrefl _)) v1, Nat.le_trans (Nat.le_trans h5 hfr.size) fst.size⟩
      have e : prsC [x] = prC x := by simp [prsC]
      rw [e]
      exact (show RowG w2 (Own1 v1) 74 2 v1 _ _ from ⟨hrow.1, fun k hk => hk⟩).keep fst (fun k hk h => by
        have h1 := hnew k hk
        have h2 := hf1.size
        have h3 := HS0.out
        have h5 : k = w.heap.size := h
        omega))
    subst hv1
    clear hrun hrow hfr h1 h2 h3 h4 h5 g1 hno hnew fst hat hsn
    unfold prV
    gi_wp2_with (gi_at_builtin; refine wpListIn_append_run rfl _ _ 71 rfl rfl rfl HRUN.out ?_)
    exact ⟨HK.out, HT.out, HI.out⟩
  case done =>
    rintro D ys W hD rfl ⟨v, h1, h2, h3, h4, h5⟩ hK
    rw [pl_all] at h2
    have c0 := h1.cell 0
    simp at c0
    obtain ⟨va, vn, vc, rfl⟩ : ∃ va vn vc, v = .slice va vn vc := by
      obtain ⟨va, vc, e, _⟩ := h2.form
      exact ⟨va, _, vc, e⟩
    gi_wp2
    refine ⟨by simp, .inl ⟨_, _, rfl, run_takeDeferred hK, ?_⟩⟩
    have hg := grownBy_putObj' W D (.deferred none)
    have hr : Turns w1.heap.size W (some D) := fun r e => by cases e; exact ⟨hD, _, hK, rfl⟩
    have k2 := own_rowG h2 hg hr
    have k4 := own_fr hf1.size h4 hg hr
    exact ⟨_, results_tmp rfl _ _ _, ⟨_, rfl, k2.sub (fun k hk hv => .inr ⟨Nat.le_trans hf1.size (h3 k hv), hk⟩), k4⟩⟩
  case stop =>
    rintro D c pre W _ _ h _
    exact h.elim
set_option maxHeartbeats 400000 in
/-- The pairs of entries, in a row. -/
theorem collectP_c (a : Option Addr) (ca : Nat) (l : List Ent) (S : Nat → Prop) (B1 : Nat) (w : World) (hm : l.length ≤ 100000) (hca : l.length ≤ ca) (b1 : w.cell? ⟨B1, 0, none⟩ = some (.slice a l.length ca)) (hp : Ents w S a l) (hS : ∀ k, S k → k < w.heap.size) :
    Calls Tryz.prog 34 #[seqP B1] w (NewPrs (Pairs l) w) := by
  have hB := cell_block b1
  have C1 := Lib.hid (appendSeqP_c 65 #[.pointer (some ⟨B1, 0, none⟩)] (Pairs l) w (enters_of Tryz.func65 (by kernel_rfl) rfl) (by rw [pairs_len]; have := (rpre_is l).1; omega) fun w1 f => tells_pairs (by omega) hca (f.cell b1 (fun h => h)) (hp.keep f (fun _ _ h => h)) hS hB)
  clear hp b1
  go_enter Tryz.func34, Tryz.ntmps34
  go_wp2_with fail
  refine (show Calls _ _ _ _ _ from C1.out).mono ?_
  rintro e w1 ⟨v, rfl, h1, h2⟩
  go_wp2_with fail
  go_ret
  exact ⟨v, rfl, h1, h2⟩
end Go.Proofs.YtlobnbbndkhcbaaGreatDoor
