/-
  Layer 6, the program's own cursor in memory; contracts of slices.Clone (of the list of runs), Valid, Item.
-/
import Derived.Test.YtkcgdmhggndhfaaMrF
namespace Go.Proofs.Ytkcgdmhggndhfaa
set_option linter.unusedVariables false
open Go.RowKit

theorem InR.till {w : World} {S : Nat → Prop} {a : Option Addr} {rs : List Rn} (h : InR w S a rs) : InR w (Till w.heap.size) a rs := fun hl => by
  obtain ⟨b, o, _, ha, hx⟩ := h hl
  have hb : b < w.heap.size := by
    have := (hx 0 rs[0] (List.getElem?_eq_getElem hl)).c0
    exact cell_block this
  exact ⟨b, o, hb, ha, fun i x hi => ⟨(hx i x hi).c0, (hx i x hi).le, (hx i x hi).cm, (hx i x hi).rd.sub fun k hk _ => hk⟩⟩
theorem InR.up {w : World} {S T : Nat → Prop} {a : Option Addr} {rs : List Rn} (h : InR w S a rs) (hs : ∀ k, S k → T k) : InR w T a rs := fun hl => by
  obtain ⟨b, o, hb, ha, hx⟩ := h hl
  exact ⟨b, o, hs b hb, ha, fun i x hi => ⟨(hx i x hi).c0, (hx i x hi).le, (hx i x hi).cm, (hx i x hi).rd.sub fun k _ hk => hs k hk⟩⟩
theorem one_rnC (rs : List Rn) : ∀ u ∈ rnC rs, u.oneCell' = true := by
  intro u hu
  unfold rnC at hu
  obtain ⟨x, _, rfl⟩ := List.mem_map.1 hu
  rfl
/-- The list of runs, appended to no runs. -/
theorem append_runs (w : World) (S : Nat → Prop) (a : Addr) (c : Nat) (rs : List Rn) (hl : rs.length ≤ 1000) (hr : InR w S (some a) rs) :
    ∃ a' c' w', (Builtin.append_ #[25, 25] 25 #[.slice (some ⟨w.heap.size, 0, none⟩) 0 0, .slice (some a) rs.length c]).run Try.prog (w.alloc (.cells #[] 27)) = .ok (.slice a' rs.length c') w' ∧
      rs.length ≤ c' ∧ c' ≤ maxLen ∧ InR w' (Till w'.heap.size) a' rs ∧ Fr No w w' := by
  have f0 := (Fr.refl No w).alloc (.cells #[] 27)
  have row := RowG.empty w 27 1
  have hr0 := hr.keep f0 (fun _ _ h => h)
  rcases Nat.eq_zero_or_pos rs.length with h0 | h0
  · have e : rs = [] := List.eq_nil_of_length_eq_zero h0
    subst e
    exact ⟨_, 0, _, run_append_zero rowRuns _ _ 0 0 (Nat.le_refl _) (some a) c, Nat.le_refl _, by simp [maxLen], fun h => absurd h (by simp), f0⟩
  · obtain ⟨i0, hi, hz0, hz1, hz2⟩ := info_parts rowRuns.info
    obtain ⟨b, o, _, e, hx⟩ := hr0 h0
    obtain rfl : a = ⟨b, o, none⟩ := Option.some.inj e
    obtain ⟨v', w', hrun, h2, h3, _, h5⟩ := run_append_own_at (P := Try.prog) (w.alloc (.cells #[] 27)) 0 25 25 27 i0 (.slice none 0 0) 1 24 rowRuns.und hi hz0 hz1 hz2 rowRuns.zc rowRuns.pos _ 0 [] row.1
      ⟨b, o, none⟩ rs.length c (rnC rs) (by rw [rnC_length]; omega) (fun j u hu => by
        unfold rnC at hu
        rw [List.getElem?_map] at hu
        cases ej : rs[j]? with
        | none => rw [ej] at hu; cases hu
        | some x =>
          rw [ej] at hu
          obtain rfl := Option.some.inj hu
          rw [add_at]
          exact (hx j x ej).c0) (one_rnC rs) (by unfold maxLen; omega) (by omega) (Nat.zero_le _)
    have hrow : RowG w' (fun _ => True) 27 1 v' rs.length (rnC rs) := by
      rw [Nat.zero_add, List.nil_append] at h2
      exact ⟨h2, fun _ _ => trivial⟩
    have hf3 : Fr No w w' := f0.then_ (Fr.grown h3 row.2) fun x hx h => h.elim (fun h => h) (fun h => absurd hx (by omega))
    obtain ⟨a2, c2, rfl, g1, g2, _, g3⟩ := hrow.form
    refine ⟨a2, c2, w', hrun, g1, g2, ?_, hf3⟩
    refine InR.till (S := fun _ => True) fun hl => ?_
    obtain ⟨b', _, rfl, hc⟩ := g3 hl
    refine ⟨b', 0, trivial, rfl, fun i x hi => ?_⟩
    have hi' : i < rs.length := by
      rcases Nat.lt_or_ge i rs.length with h | h
      · exact h
      · rw [List.getElem?_eq_none h] at hi; cases hi
    obtain ⟨b0, o0, _, _, hx0⟩ := hr h0
    have hx1 := hx0 i x hi
    refine ⟨?_, hx1.le, hx1.cm, (hx1.rd.keep hf3 (fun _ _ h => h)).sub fun _ _ _ => trivial⟩
    rw [Nat.zero_add, (hc i (by omega)).1]
    unfold rnC
    rw [List.getElem?_map, hi]
    rfl
def CloneRet (rs : List Rn) (w : World) (e : Ending) (w' : World) : Prop := ∃ a' c', e = .returned (.slice a' rs.length c') ∧ rs.length ≤ c' ∧ c' ≤ maxLen ∧ InR w' (Till w'.heap.size) a' rs ∧ Fr No w w'
set_option maxRecDepth 20000 in
set_option maxHeartbeats 1600000 in
theorem cloneRuns_c (S : Nat → Prop) (a : Option Addr) (c : Nat) (rs : List Rn) (w : World) (hl : rs.length ≤ 1000) (hr : InR w S a rs) :
    Calls Try.prog 37 #[.slice a rs.length c] w (CloneRet rs w) := by
  unfold CloneRet
  cases a with
  | none =>
    have h0 : rs = [] := by
      rcases Nat.eq_zero_or_pos rs.length with h | h
      · exact List.eq_nil_of_length_eq_zero h
      · obtain ⟨_, _, _, e, _⟩ := hr h
        cases e
    subst h0
    have he : ∀ w : World, (binOp .eql 25 (.slice none 0 c) (.slice none 0 0)).run Try.prog w = .ok (.bool true) w := fun _ => rfl
    go_enter Try.func37, Try.ntmps37
    go_wp2_with fail
    go_ret
    exact ⟨none, 0, rfl, Nat.le_refl _, by simp [maxLen], fun h => absurd h (by simp), Fr.refl _ _⟩
  | some ad =>
    obtain ⟨a', c', w', hrun, h1, h2, h3, h4⟩ := append_runs w S ad c rs hl hr
    have HRUN := Lib.hid hrun
    have H1 := Lib.hid h1
    have H2 := Lib.hid h2
    have H3 := Lib.hid h3
    have H4 := Lib.hid h4
    clear hrun hr h1 h2 h3 h4
    generalize rs.length = n at *
    have he : ∀ w : World, (binOp .eql 25 (.slice (some ad) n c) (.slice none 0 0)).run Try.prog w = .ok (.bool false) w := fun _ => rfl
    go_enter Try.func37, Try.ntmps37
    go_wp2_with (at_builtin; refine wpList_append_run rfl _ _ 25 rfl rfl rfl HRUN.out ?_)
    go_ret
    exact ⟨a', c', rfl, H1.out, H2.out, H3.out, H4.out⟩
/-- A cursor's place, as a pointer: at no item, or at one (in a block below B). -/
def PtrAt (w : World) (B : Nat) (p : Option Addr) : Option P2 → Prop
  | none => p = none
  | some q => ∃ b o, b < B ∧ p = some ⟨b, o, none⟩ ∧ w.cell? ⟨b, o, none⟩ = some (.int .i64 q.1) ∧ w.cell? ⟨b, o + 1, none⟩ = some (.int .i64 q.2)
theorem PtrAt.keep {w w' : World} {B : Nat} {p : Option Addr} {r : Option P2} {T : Nat → Prop} (h : PtrAt w B p r) (f : Fr T w w') (hn : ∀ k, k < B → ¬ T k) : PtrAt w' B p r := by
  cases r with
  | none => exact h
  | some q =>
    obtain ⟨b, o, hb, hp, h1, h2⟩ := h
    exact ⟨b, o, hb, hp, f.cell h1 (hn b hb), f.cell h2 (hn b hb)⟩
theorem PtrAt.isSome {w : World} {B : Nat} {p : Option Addr} {r : Option P2} (h : PtrAt w B p r) : p.isSome = r.isSome := by
  cases r with
  | none =>
    rw [show p = none from h]
    rfl
  | some q =>
    obtain ⟨b, o, _, hp, _⟩ := h
    rw [hp]
    rfl
abbrev cuC (a : Option Addr) (n cap : Nat) (p : Option Addr) : Array Value := #[.slice a n cap, .pointer p]
set_option maxHeartbeats 800000 in
theorem valid_c (c : Nat) (a : Option Addr) (n cap : Nat) (p : Option Addr) (w : World) (h : At w c 65 (cuC a n cap p)) :
    Calls Try.prog 23 #[.pointer (some ⟨c, 0, none⟩)] w fun e w' => e = .returned (.bool p.isSome) ∧ w = w' := by
  have c1 := h.cell 1
  simp [cuC] at c1
  clear h
  cases p with
  | none =>
    have he : ∀ w : World, (binOp .neq 63 (.pointer none) (.pointer none)).run Try.prog w = .ok (.bool false) w := fun _ => rfl
    go_enter Try.func23, Try.ntmps23
    go_wp2_with fail
    go_ret
    exact ⟨rfl, rfl⟩
  | some q =>
    have he : ∀ w : World, (binOp .neq 63 (.pointer (some q)) (.pointer none)).run Try.prog w = .ok (.bool true) w := fun _ => rfl
    go_enter Try.func23, Try.ntmps23
    go_wp2_with fail
    go_ret
    exact ⟨rfl, rfl⟩
theorem infoItem : (Try.prog.info? 49).map (·.size) = some 2 := by kernel_rfl
theorem item_results (tmps : Array Value) (w : World) (g : Nat) (t : TypeId) (x y : Value) (hp : tmps.getD 2 undef = .pointer (some ⟨g, 0, none⟩)) (hg : At w g t #[x, y]) :
    (results Try.f29 tmps).run Try.prog w = .ok (.agg #[x, y]) w := by
  have hp' : tmps[2]?.getD undef = .pointer (some ⟨g, 0, none⟩) := by simpa using hp
  have hl := run_loadVar_row (P := Try.prog) w g t 49 #[x, y] (0, 0) _ hg Try.underlying49 rfl infoItem
  simp [results, Try.results29, hp', asAddr, hl]
/-- The stores into the result. -/
theorem item_store {S : Nat → Prop} {w0 w : World} {g : Nat} {t : TypeId} {a b : Value} (h : At w g t #[a, b]) (f : Fr S w0 w) (hg : w0.heap.size ≤ g) (x y : Value) :
    At ((w.setCell ⟨g, 0, none⟩ x).setCell ⟨g, 1, none⟩ y) g t #[x, y] ∧ Fr S w0 ((w.setCell ⟨g, 0, none⟩ x).setCell ⟨g, 1, none⟩ y) :=
  ⟨(h.set_ 0 x).set_ 1 y, (f.setCell (fun h => absurd h (Nat.not_lt_of_le hg)) x).setCell (fun h => absurd h (Nat.not_lt_of_le hg)) y⟩
set_option maxRecDepth 20000 in
set_option maxHeartbeats 800000 in
theorem item_c (c B : Nat) (a : Option Addr) (n cap : Nat) (p : Option Addr) (r : Option P2) (w : World) (h : At w c 65 (cuC a n cap p)) (hp : PtrAt w B p r) (q : P2) (hq : q = r.getD (0, 0)) :
    Calls Try.prog 29 #[.pointer (some ⟨c, 0, none⟩)] w fun e w' => e = .returned (.agg #[.int .i64 q.1, .int .i64 q.2]) ∧ Fr No w w' := by
  have f0 := (Fr.refl No w).alloc (.cells #[.int .i64 0, .int .i64 0] 49)
  have A0 := At.new w 49 #[.int .i64 0, .int .i64 0]
  have h1 := h.keep f0 (fun h => h)
  have hp1 := hp.keep f0 (fun _ _ h => h)
  have HV := Lib.hid (fun W (hw : w.alloc (.cells #[.int .i64 0, .int .i64 0] 49) = W) => valid_c c a n cap p W (hw ▸ h1))
  have c1 := h1.cell 1
  simp [cuC] at c1
  clear h hp h1
  go_enter Try.func29, Try.ntmps29
  go_wp2_with fail
  obtain ⟨W, hW⟩ : ∃ x, w.alloc (.cells #[.int .i64 0, .int .i64 0] 49) = x := ⟨_, rfl⟩
  have HV := Lib.hid (HV.out W hW)
  rw [hW] at f0 A0 c1 hp1
  try rw [hW]
  clear hW
  have r0 := A0.cell 0
  have r1 := A0.cell 1
  have g0 := A0.frozen 0
  have g1 := A0.frozen 1
  simp at r0 r1
  cases r with
  | none =>
    obtain rfl : p = none := hp1
    subst hq
    have zs := Lib.hid (item_store A0 f0 (Nat.le_refl _) (.int .i64 0) (.int .i64 0))
    clear A0 f0
    refine HV.out.mono ?_
    rintro e w1 ⟨rfl, rfl⟩
    rw [show (none : Option Addr).isSome = false from rfl]
    go_wp2_with fail
    refine bodyPost_ret (v := .agg #[.int .i64 0, .int .i64 0]) (item_results _ _ w.heap.size 49 _ _ rfl zs.out.1) rfl ?_
    exact ⟨rfl, zs.out.2⟩
  | some q0 =>
    obtain ⟨b, o, _, rfl, d0, d1⟩ := hp1
    obtain rfl : q = q0 := hq
    have zs := Lib.hid (item_store A0 f0 (Nat.le_refl _) (.int .i64 q.1) (.int .i64 q.2))
    clear A0 f0
    refine HV.out.mono ?_
    rintro e w1 ⟨rfl, rfl⟩
    rw [show (some (⟨b, o, none⟩ : Addr)).isSome = true from rfl]
    go_wp2_with fail
    refine bodyPost_ret (v := .agg #[.int .i64 q.1, .int .i64 q.2]) (item_results _ _ w.heap.size 49 _ _ rfl zs.out.1) rfl ?_
    exact ⟨rfl, zs.out.2⟩
end Go.Proofs.Ytkcgdmhggndhfaa
