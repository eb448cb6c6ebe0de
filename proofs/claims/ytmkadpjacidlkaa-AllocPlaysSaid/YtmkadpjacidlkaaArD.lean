/-
  Layer 8, the program's own table: Reset.
-/
import Derived.Test.YtmkadpjacidlkaaArC
namespace Go.Proofs.Ytmkadpjacidlkaa
set_option linter.unusedVariables false
open Go.RowKit

/-- The memory of a zone's end in the queue: its role is stored, the row's first is gone, the row is stored. -/
theorem deq_run {w w2 : World} {t : Nat} {F : Nat → Prop} {b : Tb} (h0 : ∀ k, F k → k < w.heap.size) {g : Nat} {a : Option Addr} {c : Nat} (h : TaAt w t g a c b) (h2 : F t) (h3 : F g) (h4 : ∀ k, (Value.slice a b.q.length c).ownBlock = some k → F k) {z : Nat} {zs : List Nat} (hq : b.q = z :: zs)
    {a' : Option Addr} {c' : Nat} (hr : RowI w2 (fun x => (Value.slice a b.q.length c).ownBlock = some x ∧ x ≠ t ∧ x ≠ g) (.slice a' zs.length c') (qs zs)) (f : Fr (fun x => (Value.slice a b.q.length c).ownBlock = some x ∧ x ≠ t ∧ x ≠ g) (w.setCell ⟨g, z, none⟩ (.int .i64 0)) w2) :
    w2.cell? ⟨t, 1, none⟩ = some (.slice a b.q.length c) ∧ w2.frozen? ⟨t, 1, none⟩ = false ∧ Ta (w2.setCell ⟨t, 1, none⟩ (.slice a' zs.length c')) t F ⟨b.r.set z 0, zs⟩ ∧ Fr F w (w2.setCell ⟨t, 1, none⟩ (.slice a' zs.length c')) := by
  have f1 : Fr (One g) w (w.setCell ⟨g, z, none⟩ (.int .i64 0)) := (Fr.refl (One g) w).setCell (p := ⟨g, z, none⟩) (fun _ => (rfl : g = g)) _
  have hs1 : (w.setCell ⟨g, z, none⟩ (.int .i64 0)).heap.size = w.heap.size := by simp [World.setCell]
  have h1 : TaAt (w.setCell ⟨g, z, none⟩ (.int .i64 0)) t g a c (setT b z 0) := h.set_ z 0
  have ht2 := h1.hd.keep f (fun hx => hx.2.1 rfl)
  have hg2 := h1.hr.keep f (fun hx => hx.2.2 rfl)
  have f3 : Fr (One t) w2 (w2.setCell ⟨t, 1, none⟩ (.slice a' zs.length c')) := (Fr.refl (One t) w2).setCell (p := ⟨t, 1, none⟩) (fun _ => (rfl : t = t)) _
  have hs2 := f.size
  have hs3 : (w2.setCell ⟨t, 1, none⟩ (.slice a' zs.length c')).heap.size = w2.heap.size := by simp [World.setCell]
  refine ⟨ht2.cell 1, ht2.frozen 1, ⟨fun x hx => ?_, g, a', c', ⟨?_, hg2.keep f3 (fun e => h.ne e.symm), h.ne, ?_⟩, h2, h3, fun x hx => ?_⟩, ?_⟩
  · rw [hs3]
    have := h0 x hx
    omega
  · have ht3 := ht2.set_ 1 (.slice a' zs.length c')
    exact ht3
  · exact ((hr.sub fun x _ hx => hx.2).keep f3 fun x hx e => hx.1 e)
  · exact h4 x (hr.2 x hx).1
  · exact ((f1.sub fun x _ hx => by rw [show x = g from hx]; exact h3).trans (f.sub fun x _ hx => h4 x hx.1)).setCell (p := ⟨t, 1, none⟩) (fun _ => h2) _
set_option maxRecDepth 20000 in
set_option maxHeartbeats 1600000 in
theorem resetA_c {D : World → Nat → (Nat → Prop) → Dev → Prop} (M : ZoneOK D) {w : World} {t d : Nat} {F G : Nat → Prop} {b : Tb} {m : Dev} (h : Ta w t F b) (hw : WT b) (hD : D w d G m) (hwm : WF m) (hdn : m.done < 1000000) (hj : ∀ k, F k → ¬ G k) :
    Calls Try.prog 13 #[.pointer (some ⟨t, 0, none⟩), .pointer (some ⟨d, 0, none⟩)] w fun e w' => e = .returned (.tuple #[.int .i64 (rstZ b m), .int .i64 (rstE b m)]) ∧
      ∃ F' G', Ta w' t F' (rstT b m) ∧ D w' d G' (rstM b m) ∧ (∀ k, F' k → F k ∨ (w.heap.size ≤ k ∧ k < w'.heap.size)) ∧ (∀ k, G' k → G k ∨ (w.heap.size ≤ k ∧ k < w'.heap.size)) ∧ (∀ k, F' k → ¬ G' k) ∧ Fr (fun k => F k ∨ G k) w w' := by
  cases hq : b.q with
  | nil =>
    have E1 : rstZ b m = 0 := by unfold rstZ; rw [hq]
    have E2 : rstE b m = 81 := by unfold rstE; rw [hq]
    have E3 : rstT b m = b := by unfold rstT; rw [hq]
    have E4 : rstM b m = m := by unfold rstM; rw [hq]
    rw [E1, E2, E3, E4]
    have HT := Lib.hid h
    have HD := Lib.hid hD
    have HJ := Lib.hid hj
    obtain ⟨h0, g, a, c, h1, h2, h3, h4⟩ := h
    obtain ⟨c0, c1⟩ := h1.cells
    rw [hq, List.length_nil] at c1
    clear h0 h1 h2 h3 h4 hD hj E1 E2 E3 E4 hq hw hwm
    go_enter Try.func13, Try.ntmps13
    go_wp2_with fail
    go_ret2
    exact ⟨rfl, F, G, HT.out, HD.out, fun k hk => .inl hk, fun k hk => .inl hk, HJ.out, Fr.refl _ _⟩
  | cons z zs =>
    have hz := (hw.qr z).1 (by rw [hq]; exact List.mem_cons_self ..)
    have hz64 := hw.n64
    have E2 : rstE b m = cmdR m (resErr m (z : Int)) := by unfold rstE; rw [hq]
    have E4 : rstM b m = resM m (z : Int) := by unfold rstM; rw [hq]
    have E1 : rstZ b m = if rstE b m = 0 then (z : Int) else 0 := by unfold rstZ; rw [hq]
    have E3 : rstT b m = if rstE b m = 0 then ⟨b.r.set z 0, zs⟩ else b := by unfold rstT; rw [hq]
    have CR := Lib.hid (M.reset hD hwm hdn (z : Int) (wf_small (by omega) (by omega)))
    rw [← E2, ← E4] at CR
    have HT := Lib.hid h
    have HJ := Lib.hid hj
    have HM := Lib.hid M
    have HLD := Lib.hid (M.low hD)
    obtain ⟨h0, g, a, c, h1, h2, h3, h4⟩ := h
    obtain ⟨c0, c1⟩ := h1.cells
    have hgz : ¬ G g := hj g h3
    have htz : ¬ G t := hj t h2
    obtain ⟨ra, rc, hv, hrc, hrm, hin⟩ := h1.row.form
    rw [show (qs b.q).length = b.q.length by simp [qs]] at hv hrc hin
    simp only [Value.slice.injEq, true_and] at hv
    obtain ⟨rfl, rfl⟩ := hv
    obtain ⟨bq, o, hbq, rfl, hcq⟩ := hin (by rw [hq]; simp)
    have q0 := hcq 0 (by rw [hq]; simp)
    rw [Nat.add_zero, hq] at q0
    have q0 : w.cell? ⟨bq, o, none⟩ = some (.int .i64 (z : Int)) := q0
    clear hcq hin
    have hFbq : F bq := by
      obtain ⟨⟨_, h9⟩, _⟩ := h1.row
      rcases h9 with ⟨h9, _⟩ | ⟨gg, cc, _, h9, _⟩
      · cases h9
      · simp only [Value.slice.injEq, Option.some.injEq, Addr.mk.injEq] at h9
        obtain ⟨⟨rfl, rfl, _⟩, _⟩ := h9
        exact h4 bq rfl
    have hbz : ¬ G bq := hj bq hFbq
    obtain ⟨nq, hnq⟩ : ∃ n, b.q.length = n := ⟨_, rfl⟩
    have hnz : 0 < nq := by rw [← hnq, hq]; simp
    have d0 : ((nq : Int) == 0) = false := by rw [beq_eq_false_iff_ne]; omega
    by_cases he : rstE b m = 0
    · rw [he, if_pos rfl] at E1 E3
      rw [E1, E3, he]
      rw [he] at CR
      have KEY := Lib.hid (fun (w1 : World) (f : Fr G w w1) => And.intro (h1.keep f htz hgz (fun k hk => hj k (h4 k hk))) (show ∀ k, F k → k < w1.heap.size from fun k hk => Nat.lt_of_lt_of_le (h0 k hk) f.size))
      have HF := Lib.hid (And.intro h2 (And.intro h3 h4))
      have HQ := Lib.hid hq
      have HNQ := Lib.hid hnq
      rw [hnq] at c1
      have hne := h1.ne
      have hrl := hz.1
      clear h0 h1 h2 h3 h4 hj E1 E2 E3 E4 hq hw hwm hD he hz hFbq hrc hrm hbq M
      generalize rstM b m = m2 at *
      go_enter Try.func13, Try.ntmps13
      go_wp2_with fail
      refine CR.out.mono ?_
      intro e w1 hret
      obtain ⟨rfl, G', hG1, hG2, hG3⟩ := hret
      have c0 := hG3.cell c0 htz
      have c1 := hG3.cell c1 htz
      obtain ⟨k1, k2⟩ := KEY.out w1 hG3
      have hz0 := k1.role hrl
      have hfz := k1.hr.frozen z
      have K1 := Lib.hid k1
      have K2 := Lib.hid k2
      have HG1 := Lib.hid hG1
      have HG2 := Lib.hid hG2
      have HG3 := Lib.hid hG3
      have kk : TaAt (w1.setCell ⟨g, z, none⟩ (.int .i64 0)) t g (some ⟨bq, o, none⟩) c (setT b z 0) := k1.set_ z 0
      have c1' : (w1.setCell ⟨g, z, none⟩ (.int .i64 0)).cell? ⟨t, 1, none⟩ = some (.slice (some ⟨bq, o, none⟩) nq c) := by
        rw [kk.cells.2, ← HNQ.out]
        rfl
      have hrow : RowI (w1.setCell ⟨g, z, none⟩ (.int .i64 0)) (fun x => (Value.slice (some ⟨bq, o, none⟩) b.q.length c).ownBlock = some x ∧ x ≠ t ∧ x ≠ g) (.slice (some ⟨bq, o, none⟩) nq c) ((z : Int) :: qs zs) := by
        have : RowI (w1.setCell ⟨g, z, none⟩ (.int .i64 0)) (fun x => (Value.slice (some ⟨bq, o, none⟩) b.q.length c).ownBlock = some x ∧ x ≠ t ∧ x ≠ g) (.slice (some ⟨bq, o, none⟩) b.q.length c) (qs b.q) := ⟨kk.row.1, fun x hx => ⟨hx, kk.row.2 x hx⟩⟩
        rw [HNQ.out] at this
        rw [HQ.out] at this
        rw [HNQ.out]
        exact this
      have CD := Lib.hid (delete_c hrow)
      rw [show (qs zs).length = zs.length by simp [qs]] at CD
      clear k1 k2 hG1 hG2 hG3 KEY kk hrow CR
      generalize b.r.length = n at *
      generalize ((b.r.getD z 0 : Nat) : Int) = y at *
      go_wp2_with fail
      refine CD.out.mono ?_
      rintro e w2 ⟨a', c', rfl, hr, hf⟩
      obtain ⟨e1, e2, e3, e4⟩ := deq_run K2.out K1.out HF.out.1 HF.out.2.1 HF.out.2.2 HQ.out hr hf
      have E3 := Lib.hid e3
      have E4 := Lib.hid e4
      clear hr hf CD e3 e4
      go_wp2_with fail
      go_ret2
      have hs := HG3.out.size
      have fT : Fr F w1 (w2.setCell ⟨t, 1, none⟩ (.slice a' zs.length c')) := E4.out
      refine ⟨rfl, F, G', E3.out, HM.out.keep HG1.out fT (fun k hk hf => (HG2.out k hk).elim (fun h5 => HJ.out k hf h5) (fun h5 => absurd (HT.out.1 k hf) (by omega))), fun k hk => .inl hk, fun k hk => (HG2.out k hk).elim .inl fun h5 => .inr ⟨h5.1, Nat.lt_of_lt_of_le h5.2 fT.size⟩, fun k hf hk => (HG2.out k hk).elim (fun h5 => HJ.out k hf h5) (fun h5 => absurd (HT.out.1 k hf) (by omega)), ?_⟩
      exact (HG3.out.sub fun k _ hk => .inr hk).trans (fT.sub fun k _ hk => .inl hk)
    · rw [if_neg he] at E1 E3
      rw [E1, E3]
      have de : (rstE b m == 0) = false := by rw [beq_eq_false_iff_ne]; exact he
      rw [hnq] at c1
      clear h0 h1 h2 h3 h4 hj E1 E2 E3 E4 hq hw hwm hD he hz hFbq hrc hrm hbq M
      generalize rstM b m = m2 at *
      generalize rstE b m = E at *
      go_enter Try.func13, Try.ntmps13
      go_wp2_with fail
      refine CR.out.mono ?_
      intro e w1 hret
      obtain ⟨rfl, G', hG1, hG2, hG3⟩ := hret
      have HG1 := Lib.hid hG1
      have HG2 := Lib.hid hG2
      have HG3 := Lib.hid hG3
      clear hG1 hG2 hG3 CR
      go_wp2_with fail
      go_ret2
      exact ⟨rfl, F, G', HT.out.keep HG3.out HJ.out, HG1.out, fun k hk => .inl hk, HG2.out, fun k hf hk => (HG2.out k hk).elim (fun h5 => HJ.out k hf h5) (fun h5 => absurd (HT.out.1 k hf) (by omega)), HG3.out.sub fun k _ hk => .inr hk⟩
end Go.Proofs.Ytmkadpjacidlkaa
