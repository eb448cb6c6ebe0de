/-
  Layer 8, the program's own table: slices.Clone of numbers, Queue.
-/
import Derived.Test.YtmkadpjacidlkaaArA
import Derived.Test.YtmkadpjacidlkaaMemJ
namespace Go.Proofs.Ytmkadpjacidlkaa
set_option linter.unusedVariables false
open Go.RowKit

theorem intsRet_of {w w' : World} {S : Nat → Prop} {v : Value} {l : List Nat} (h : RowI w' S v (qs l)) (hl : ∀ x ∈ l, x < 1000000) (f : Fr No w w') : IntsRet l w (.returned v) w' := by
  obtain ⟨a, c, rfl, h1, h2, h3⟩ := h.ints (fun x hx => by
    obtain ⟨y, hy, rfl⟩ := List.mem_map.1 hx
    have := hl y hy
    exact wf_small (by omega) (by omega))
  rw [show (qs l).length = l.length by simp [qs]] at *
  exact ⟨a, c, rfl, h1, h2, h3, f⟩
set_option maxHeartbeats 800000 in
theorem cloneI_c {w : World} {S : Nat → Prop} {v : Value} {l : List Nat} (h : RowI w S v (qs l)) (hl : ∀ x ∈ l, x < 1000000) (hn : l.length ≤ 1000000) :
    Calls Try.prog 39 #[v] w (IntsRet l w) := by
  obtain ⟨a, cap, rfl, hc, hm, hin⟩ := h.form
  rw [show (qs l).length = l.length by simp [qs]] at *
  cases a with
  | none =>
    have h0 : l = [] := by
      rcases Nat.eq_zero_or_pos l.length with h | h
      · exact List.eq_nil_of_length_eq_zero h
      · obtain ⟨_, _, _, e, _⟩ := hin h
        cases e
    subst h0
    have he : ∀ w : World, (binOp .eql 29 (.slice none 0 cap) (.slice none 0 0)).run Try.prog w = .ok (.bool true) w := fun _ => rfl
    clear hin hl hm hc hn h
    simp only [List.length_nil]
    go_enter Try.func39, Try.ntmps39
    go_wp2_with fail
    go_ret
    exact ⟨none, 0, rfl, Nat.le_refl _, by simp [maxLen], fun h => absurd h (by simp), Fr.refl _ _⟩
  | some ad =>
    have R0 := row_emptyI w
    have f0 := (Fr.refl No w).alloc (.cells #[] 3)
    obtain ⟨v1, w1, hrun, hrow, hfr⟩ := R0.append (some ad) l.length cap (qs l) (by simp [qs]) (fun hl0 => by
      rw [show (qs l).length = l.length by simp [qs]] at hl0 ⊢
      obtain ⟨b, o, _, ha, hcell⟩ := hin hl0
      exact ⟨b, o, ha, fun i hi => f0.cell (hcell i hi) (fun h => h)⟩) (by simp; omega)
    rw [List.nil_append] at hrow
    have HRUN := Lib.hid hrun
    have HN : Hid (IntsRet l w (.returned v1) w1) := Lib.hid (intsRet_of hrow hl (f0.then_ hfr fun k hk h => h.elim (fun h => h) fun h => absurd hk (by omega)))
    clear R0 f0 hrun hrow hfr hin hl h
    generalize l.length = len at *
    have he : ∀ w : World, (binOp .eql 29 (.slice (some ad) len cap) (.slice none 0 0)).run Try.prog w = .ok (.bool false) w := fun _ => rfl
    go_enter Try.func39, Try.ntmps39
    go_wp2_with (at_builtin; refine wpList_append_run rfl _ _ 29 rfl rfl rfl HRUN.out ?_)
    go_ret
    exact HN.out
theorem q_le {b : Tb} (hw : WT b) : (∀ x ∈ b.q, x < 64) ∧ b.q.length ≤ 64 := by
  have h8 := hw.n64
  have h7 : ∀ x ∈ b.q, x < 64 := fun x hx => by
    have h7 := ((hw.qr x).1 hx).1
    omega
  have h9 := List.Nodup.length_le_of_subset hw.nd (fun x hx => List.mem_range.2 (h7 x hx))
  rw [List.length_range] at h9
  exact ⟨h7, h9⟩
set_option maxHeartbeats 800000 in
theorem queue_c {w : World} {t : Nat} {F : Nat → Prop} {b : Tb} (h : Ta w t F b) (hw : WT b) : Calls Try.prog 21 #[.pointer (some ⟨t, 0, none⟩)] w (IntsRet b.q w) := by
  obtain ⟨h0, g, a, c, h1, h2, h3, h4⟩ := h
  obtain ⟨c0, c1⟩ := h1.cells
  have hq := q_le hw
  have C := Lib.hid (cloneI_c h1.row (fun x hx => by have := hq.1 x hx; omega) (by omega))
  clear h1 h0 h2 h3 h4 hw hq
  generalize b.q.length = n at *
  go_enter Try.func21, Try.ntmps21
  go_wp2_with fail
  refine C.out.mono ?_
  rintro e w1 ⟨a1, c1, rfl, k1, k2, k3, k4⟩
  have HN : Hid (IntsRet b.q w (.returned (.slice a1 b.q.length c1)) w1) := Lib.hid ⟨a1, c1, rfl, k1, k2, k3, k4⟩
  clear k1 k2 k3 k4 C
  generalize b.q.length = n2 at *
  go_wp2_with fail
  go_ret
  exact HN.out
end Go.Proofs.Ytmkadpjacidlkaa
