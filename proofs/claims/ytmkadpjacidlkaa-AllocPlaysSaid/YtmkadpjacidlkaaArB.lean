/-
  Layer 8, the program's own table: enqueue, Release.
-/
import Derived.Test.YtmkadpjacidlkaaArA
namespace Go.Proofs.Ytmkadpjacidlkaa
set_option linter.unusedVariables false
open Go.RowKit

/-- A zone is queued. -/
def enqT (b : Tb) (k : Nat) : Tb := { r := b.r.set k 6, q := b.q ++ [k] }
/-- Behind an enqueue: the roles' block is the same one, and has one role anew; the queue's row has one zone more. -/
structure EnqW (t g : Nat) (k : Nat) (F : Nat → Prop) (b : Tb) (w w' : World) : Prop where
  ta : Ta w' t (Gr F w w') (enqT b k)
  fr : Fr F w w'
  ro : At w' g 3 (igs (b.r.set k 6)).toArray
  hd : w'.cell? ⟨t, 0, none⟩ = some (.slice (some ⟨g, 0, none⟩) b.r.length b.r.length)
section
variable {w : World} {t : Nat} {F : Nat → Prop} {b : Tb}
/-- The memory of an enqueue: the store, the append, the store. -/
theorem enq_run (h0 : ∀ k, F k → k < w.heap.size) {g : Nat} {a : Option Addr} {c : Nat} (h : TaAt w t g a c b) (h2 : F t) (h3 : F g) (h4 : ∀ k, (Value.slice a b.q.length c).ownBlock = some k → F k) (k : Nat) (hb : b.q.length < 1000000) :
    ∃ a' c' w2, (Builtin.append_ #[29, 29] 29 #[.slice a b.q.length c, .slice (some ⟨w.heap.size, 0, none⟩) 1 1]).run Try.prog ((w.setCell ⟨g, k, none⟩ (.int .i64 6)).alloc (.cells #[.int .i64 (k : Int)] 3)) = .ok (.slice a' (b.q.length + 1) c') w2 ∧
      w2.cell? ⟨t, 1, none⟩ = some (.slice a b.q.length c) ∧ w2.frozen? ⟨t, 1, none⟩ = false ∧ EnqW t g k F b w (w2.setCell ⟨t, 1, none⟩ (.slice a' (b.q.length + 1) c')) := by
  have f1 : Fr (One g) w (w.setCell ⟨g, k, none⟩ (.int .i64 6)) := (Fr.refl (One g) w).setCell (p := ⟨g, k, none⟩) (fun _ => (rfl : g = g)) _
  have hs1 : (w.setCell ⟨g, k, none⟩ (.int .i64 6)).heap.size = w.heap.size := by simp [World.setCell]
  have h1 := h.set_ k 6
  have hrow : RowI (w.setCell ⟨g, k, none⟩ (.int .i64 6)) (fun x => (Value.slice a b.q.length c).ownBlock = some x ∧ x ≠ t ∧ x ≠ g) (.slice a b.q.length c) (qs b.q) := ⟨h1.row.1, fun x hx => ⟨hx, h1.row.2 x hx⟩⟩
  obtain ⟨v, w2, hrun, hr2, f2⟩ := hrow.push (fun x hx => by rw [hs1]; exact h0 x (h4 x hx.1)) (k : Int) (by simpa using hb)
  rw [hs1] at hrun
  have ht2 := h1.hd.keep f2 (fun hx => hx.2.1 rfl)
  have hg2 := h1.hr.keep f2 (fun hx => hx.2.2 rfl)
  obtain ⟨a', c', hv, _, _, _⟩ := hr2.form
  rw [show (qs b.q ++ [(k : Int)]).length = b.q.length + 1 by simp [qs]] at hv
  subst hv
  refine ⟨a', c', w2, hrun, ht2.cell 1, ht2.frozen 1, ?_⟩
  have hlen : (b.q ++ [k]).length = b.q.length + 1 := by simp
  have f3 : Fr (One t) w2 (w2.setCell ⟨t, 1, none⟩ (Value.slice a' (b.q.length + 1) c')) := (Fr.refl (One t) w2).setCell (p := ⟨t, 1, none⟩) (fun _ => (rfl : t = t)) _
  have hs2 := f2.size
  have hs3 : (w2.setCell ⟨t, 1, none⟩ (Value.slice a' (b.q.length + 1) c')).heap.size = w2.heap.size := by simp [World.setCell]
  have hg3 := hg2.keep f3 (fun e => h.ne e.symm)
  have ht3 := ht2.set_ 1 (Value.slice a' (b.q.length + 1) c')
  have F1 : Fr F w (w.setCell ⟨g, k, none⟩ (.int .i64 6)) := f1.sub fun x _ hx => by rw [show x = g from hx]; exact h3
  have F2 : Fr F w w2 := F1.trans (f2.sub fun x _ hx => h4 x hx.1)
  have F3 : Fr F w (w2.setCell ⟨t, 1, none⟩ (Value.slice a' (b.q.length + 1) c')) := F2.setCell (p := ⟨t, 1, none⟩) (fun _ => h2) _
  have hto := h0 t h2
  have hgo := h0 g h3
  have hr3 : RowI (w2.setCell ⟨t, 1, none⟩ (Value.slice a' (b.q.length + 1) c')) (fun k => k ≠ t ∧ k ≠ g) (Value.slice a' (b.q.length + 1) c') (qs (b.q ++ [k])) := by
    rw [show qs (b.q ++ [k]) = qs b.q ++ [(k : Int)] by simp [qs]]
    have hne : RowI w2 (fun k => k ≠ t ∧ k ≠ g) (Value.slice a' (b.q.length + 1) c') (qs b.q ++ [(k : Int)]) := hr2.sub fun x _ hx => by
      rcases hx with hx | hx
      · exact hx.2
      · rw [hs1] at hx
        exact ⟨by omega, by omega⟩
    exact hne.keep f3 fun x hx e => hx.1 e
  refine ⟨⟨fun x hx => ?_, g, a', c', ⟨?_, hg3, h.ne, ?_⟩, .inl h2, .inl h3, fun x hx => ?_⟩, F3, hg3, ?_⟩
  · rw [hs3]
    rcases hx with hx | hx
    · have := h0 x hx
      rw [hs1] at hs2
      omega
    · rw [hs3] at hx
      exact hx.2
  · show At _ t _ (tbC g (b.r.set k 6).length a' (b.q ++ [k]).length c')
    rw [List.length_set]
    rw [show (setT b k 6).r.length = b.r.length from List.length_set] at ht3
    rw [hlen]
    exact ht3
  · show RowI _ _ (.slice a' (b.q ++ [k]).length c') _
    rw [hlen]
    exact hr3
  · have hx : (Value.slice a' (b.q ++ [k]).length c').ownBlock = some x := hx
    rw [hlen] at hx
    rcases hr2.2 x hx with h5 | h5
    · exact .inl (h4 x h5.1)
    · rw [hs1] at h5
      exact .inr ⟨h5.1, by rw [hs3]; exact h5.2⟩
  · have := ht3.cell 0
    rw [show (setT b k 6).r.length = b.r.length from List.length_set] at this
    exact this
set_option maxHeartbeats 800000 in
theorem enqueue_c (h0 : ∀ k, F k → k < w.heap.size) {g : Nat} {a : Option Addr} {c : Nat} (h : TaAt w t g a c b) (h2 : F t) (h3 : F g) (h4 : ∀ k, (Value.slice a b.q.length c).ownBlock = some k → F k) (k : Nat) (hk : k < b.r.length) (hb : b.q.length < 1000000) :
    Calls Try.prog 31 #[.pointer (some ⟨t, 0, none⟩), .int .i64 (k : Int)] w fun e w' => e = .returned (.tuple #[]) ∧ EnqW t g k F b w w' := by
  obtain ⟨a', c', w2, hrun, e1, e2, HW⟩ := enq_run h0 h h2 h3 h4 k hb
  obtain ⟨c0, c1⟩ := h.cells
  have hc := h.role hk
  have hfz := h.hr.frozen k
  have c1' : (w.setCell ⟨g, k, none⟩ (.int .i64 6)).cell? ⟨t, 1, none⟩ = some (.slice a b.q.length c) := by
    have f1 : Fr (One g) w (w.setCell ⟨g, k, none⟩ (.int .i64 6)) := (Fr.refl (One g) w).setCell (p := ⟨g, k, none⟩) (fun _ => (rfl : g = g)) _
    exact f1.cell c1 h.ne
  have HRUN := Lib.hid hrun
  have HW := Lib.hid HW
  clear hrun h0 h h2 h3 h4 hb
  have hk' := hk
  generalize b.r.length = n at hk c0
  generalize b.q.length = m at *
  generalize ((b.r.getD k 0 : Nat) : Int) = y at *
  go_enter Try.func31, Try.ntmps31
  go_wp2_with (at_builtin; refine wpList_append_run rfl _ _ 29 rfl rfl rfl HRUN.out ?_)
  go_end0
  exact ⟨rfl, HW.out⟩
set_option maxHeartbeats 800000 in
theorem release_c (h : Ta w t F b) (hw : WT b) (z : Int) : Calls Try.prog 11 #[.pointer (some ⟨t, 0, none⟩), .int .i64 z] w (MoveT Ta t F (relT b z) (.int .i64 (relE b z)) w) := by
  have C := Lib.hid (hasA_c h z)
  have HE : Hid (relE b z = if !hasT b z then 70 else if !okRole (rolT b z : Int) then 80 else 0) := Lib.hid rfl
  have HN : Hid (relE b z ≠ 0 → MoveT Ta t F (relT b z) (.int .i64 (relE b z)) w (.returned (.int .i64 (relE b z))) w) := Lib.hid fun h0 => ⟨rfl, F, by unfold relT; rw [if_neg h0]; exact h, fun k hk => .inl hk, Fr.refl _ _⟩
  obtain ⟨h0, g, a, c, h1, h2, h3, h4⟩ := h
  obtain ⟨c0, _⟩ := h1.cells
  cases hH : hasT b z with
  | false =>
    rw [hH] at C HE
    clear h1 hH h0 h2 h3 h4
    go_enter Try.func11, Try.ntmps11
    go_wp2_with fail
    refine C.out.mono ?_
    rintro e w' ⟨rfl, rfl⟩
    go_wp2_with fail
    go_ret
    rw [show (70 : Int) = relE b z by rw [HE.out]; rfl]
    exact HN.out (by rw [HE.out]; simp)
  | true =>
    rw [hH] at C HE
    obtain ⟨h5, h6⟩ := hasT_iff.1 hH
    have hc := h1.role h6
    have hql : b.q.length ≤ 64 := by
      have h7 : ∀ x ∈ b.q, x ∈ List.range 64 := fun x hx => by
        have h7 := ((hw.qr x).1 hx).1
        have h8 := hw.n64
        exact List.mem_range.2 (by omega)
      have h8 := List.Nodup.length_le_of_subset hw.nd h7
      rw [List.length_range] at h8
      omega
    obtain ⟨k, rfl⟩ : ∃ k : Nat, z = (k : Int) := ⟨z.toNat, by omega⟩
    rw [Int.toNat_natCast] at hc h6
    have CE := Lib.hid (enqueue_c h0 h1 h2 h3 h4 k h6 (by omega))
    have CU := Lib.hid (used_c ((b.r.getD k 0 : Nat) : Int) w)
    have HRT : Hid (relE b (k : Int) = 0 → relT b (k : Int) = enqT b k) := Lib.hid fun h => by unfold relT; rw [if_pos h]; rfl
    have hz : rolT b (k : Int) = b.r.getD k 0 := rfl
    rw [hz] at HE
    cases hO : okRole ((b.r.getD k 0 : Nat) : Int) with
    | false =>
      rw [hO] at CU HE
      clear h1 hH h0 h2 h3 h4 h5 hO hw hz hql
      generalize b.r.length = n at h6 c0
      generalize ((b.r.getD k 0 : Nat) : Int) = y at *
      go_enter Try.func11, Try.ntmps11
      go_wp2_with fail
      refine C.out.mono ?_
      rintro e w' ⟨rfl, rfl⟩
      go_wp2_with fail
      refine CU.out.mono ?_
      rintro e w' ⟨rfl, rfl⟩
      go_wp2_with fail
      go_ret
      rw [show (80 : Int) = relE b (k : Int) by rw [HE.out]; rfl]
      exact HN.out (by rw [HE.out]; simp)
    | true =>
      rw [hO] at CU HE
      clear h1 hH h0 h2 h3 h4 h5 hO hw hz hql HN
      generalize b.r.length = n at h6 c0
      generalize ((b.r.getD k 0 : Nat) : Int) = y at *
      go_enter Try.func11, Try.ntmps11
      go_wp2_with fail
      refine C.out.mono ?_
      rintro e w' ⟨rfl, rfl⟩
      go_wp2_with fail
      refine CU.out.mono ?_
      rintro e w' ⟨rfl, rfl⟩
      go_wp2_with fail
      refine CE.out.mono ?_
      rintro e w' ⟨rfl, hE⟩
      have HEW := Lib.hid hE
      clear hE CE CU C
      go_wp2_with fail
      go_ret
      have e0 : relE b (k : Int) = 0 := by rw [HE.out]; rfl
      refine ⟨by rw [e0]; rfl, _, by rw [HRT.out e0]; exact HEW.out.ta, fun x hx => hx, HEW.out.fr⟩
end
end Go.Proofs.Ytmkadpjacidlkaa
