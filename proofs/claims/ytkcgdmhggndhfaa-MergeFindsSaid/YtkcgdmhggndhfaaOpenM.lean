/-
  Layer 6: arguments opened: pairs (items, steps), and runs of items.
-/
import Derived.Test.YtkcgdmhggndhfaaMgC
import Derived.Deep.Slices
import Derived.Deep.Fields
namespace Go.Proofs.Ytkcgdmhggndhfaa
set_option linter.unusedVariables false
open Go.ChangeShapes Go.WideShapes Go.ChangeAt Go.RowKit Go.Deep

theorem list_of {α : Type} {p : Nat → α → Prop} : ∀ (m : Nat), (∀ i, i < m → ∃ x, p i x) → ∃ l : List α, l.length = m ∧ ∀ i x, l[i]? = some x → p i x := by
  intro m
  induction m with
  | zero => exact fun _ => ⟨[], rfl, fun i x h => by simp at h⟩
  | succ m ih =>
    intro h
    obtain ⟨l, hl, hp⟩ := ih fun i hi => h i (by omega)
    obtain ⟨x, hx⟩ := h m (by omega)
    refine ⟨l ++ [x], by simp [hl], fun i y hy => ?_⟩
    rcases Nat.lt_or_ge i l.length with h1 | h1
    · rw [List.getElem?_append_left h1] at hy
      exact hp i y hy
    · rw [List.getElem?_append_right h1] at hy
      have h2 : i - l.length = 0 := by
        rcases Nat.eq_zero_or_pos (i - l.length) with h0 | h0
        · exact h0
        · rw [List.getElem?_eq_none (by simp; omega)] at hy; cases hy
      rw [h2] at hy
      have : x = y := by simpa using hy
      subst this
      have : i = m := by omega
      subst this
      exact hx

theorem add_plain (b o i : Nat) : (⟨b, o, none⟩ : Addr).add i = ⟨b, o + i, none⟩ := by unfold Addr.add; split <;> simp_all

section
variable {H : Type} {enc : TypeId × Value → H} {w : World} {base : Nat} {spare : Nat → Bool} {held : Bool}
set_option maxRecDepth 20000 in
theorem slice_trod {t e : TypeId} {v : Value} {d : DataW H} {p : List MemPlace} {bb : Nat} (ht : Try.prog.underlying t = some (.slice e)) (hv : Value.okWide Try.prog w .any bb t v)
    (h : DataW.Trod enc Try.prog w base spare held t v d p) : ∃ fuel y, DataW.trod enc Try.prog w base spare held fuel t [v] = some y := by
  obtain ⟨a0, len0, cap0, rfl⟩ := okWide_slice ht hv
  obtain ⟨fuel, hf⟩ := h
  exact ⟨fuel, _, hf⟩
set_option maxRecDepth 20000 in
theorem its_of {fuel : Nat} {v : Value} {y : DataW H × List MemPlace} (h : DataW.trod enc Try.prog w base spare held fuel 31 [v] = some y) :
    ∃ a cap l, v = .slice a l.length cap ∧ l.length ≤ cap ∧ cap ≤ maxLen ∧ InP w (Till w.heap.size) a l := by
  rcases open_slice Try.underlying31 h with ⟨hcs, _⟩ | ⟨x, len, cap, m, n, D, Pl, hcs, _, hl, hm, hmm, _, hi⟩
  · cases hcs
    exact ⟨none, 0, [], rfl, Nat.le_refl _, by unfold maxLen; omega, fun h => absurd h (by simp)⟩
  · cases hcs
    have hml : len ≤ m := by rw [hmm]; split <;> omega
    have hc : Try.prog.cellsOf 51 = 2 := by kernel_rfl
    rw [hc] at hi
    obtain ⟨b, off, spot⟩ := x
    have hspot : 0 < len → spot = none := by
      intro h0
      obtain ⟨cs', h1, h2⟩ := hi 0 (by omega)
      obtain ⟨_, hcl, hat⟩ := World.cells?_some h1
      have h3 := hat 0 (by omega)
      rw [List.getElem?_eq_getElem (show 0 < cs'.length by omega)] at h3
      have := World.cell?_spot h3
      simpa [Addr.add] using this
    have hx : ∀ i, i < len → ∃ x : P2, spot = none ∧ w.cell? ⟨b, off + i * 2, none⟩ = some (.int .i64 x.1) ∧ w.cell? ⟨b, off + i * 2 + 1, none⟩ = some (.int .i64 x.2) := by
      intro i hil
      have hs := hspot (by omega)
      subst hs
      obtain ⟨cs', h1, h2⟩ := hi i (by omega)
      obtain ⟨_, hcl, hat⟩ := World.cells?_some h1
      obtain ⟨xs, n', hn', hy, hlen, hyl, hf⟩ := DataW.trod_struct Try.underlying51 h2
      have a0 := hat 0 (by omega)
      have a1 := hat 1 (by omega)
      match cs', hcl with
      | [u0, u1], _ =>
        rw [add_plain, add_plain] at a0 a1
        have f0 := hf 0 _ rfl
        have f1 := hf 1 _ rfl
        match xs, hyl with
        | [x0, x1], _ =>
          obtain ⟨k, hk, _, wk⟩ := DataW.trod_int Try.underlying3 f0
          obtain ⟨n1, hn1, _, wn⟩ := DataW.trod_int Try.underlying3 f1
          have e0 : u0 = .int .i64 k := by
            have : [u0] = [Value.int .i64 k] := hk
            simpa using this
          have e1 : u1 = .int .i64 n1 := by
            have : [u1] = [Value.int .i64 n1] := hn1
            simpa using this
          subst e0 e1
          exact ⟨(k, n1), rfl, a0, a1⟩
    obtain ⟨l, hll, hlp⟩ := list_of len hx
    refine ⟨some ⟨b, off, spot⟩, cap, l, by rw [hll], by omega, hm, fun h0 => ?_⟩
    obtain ⟨hs, hc0, _⟩ := hlp 0 (l[0]'h0) (List.getElem?_eq_getElem h0)
    subst hs
    refine ⟨b, off, cell_block hc0, rfl, fun i hi => ?_⟩
    rw [getD_of_lt l i hi]
    exact (hlp i _ (List.getElem?_eq_getElem hi)).2
set_option maxRecDepth 20000 in
theorem steps_of {fuel : Nat} {v : Value} {y : DataW H × List MemPlace} (h : DataW.trod enc Try.prog w base spare held fuel 41 [v] = some y) :
    ∃ a cap l, v = .slice a l.length cap ∧ l.length ≤ cap ∧ cap ≤ maxLen ∧ InP w (Till w.heap.size) a l := by
  rcases open_slice Try.underlying41 h with ⟨hcs, _⟩ | ⟨x, len, cap, m, n, D, Pl, hcs, _, hl, hm, hmm, _, hi⟩
  · cases hcs
    exact ⟨none, 0, [], rfl, Nat.le_refl _, by unfold maxLen; omega, fun h => absurd h (by simp)⟩
  · cases hcs
    have hml : len ≤ m := by rw [hmm]; split <;> omega
    have hc : Try.prog.cellsOf 46 = 2 := by kernel_rfl
    rw [hc] at hi
    obtain ⟨b, off, spot⟩ := x
    have hspot : 0 < len → spot = none := by
      intro h0
      obtain ⟨cs', h1, h2⟩ := hi 0 (by omega)
      obtain ⟨_, hcl, hat⟩ := World.cells?_some h1
      have h3 := hat 0 (by omega)
      rw [List.getElem?_eq_getElem (show 0 < cs'.length by omega)] at h3
      have := World.cell?_spot h3
      simpa [Addr.add] using this
    have hx : ∀ i, i < len → ∃ x : P2, spot = none ∧ w.cell? ⟨b, off + i * 2, none⟩ = some (.int .i64 x.1) ∧ w.cell? ⟨b, off + i * 2 + 1, none⟩ = some (.int .i64 x.2) := by
      intro i hil
      have hs := hspot (by omega)
      subst hs
      obtain ⟨cs', h1, h2⟩ := hi i (by omega)
      obtain ⟨_, hcl, hat⟩ := World.cells?_some h1
      obtain ⟨xs, n', hn', hy, hlen, hyl, hf⟩ := DataW.trod_struct Try.underlying46 h2
      have a0 := hat 0 (by omega)
      have a1 := hat 1 (by omega)
      match cs', hcl with
      | [u0, u1], _ =>
        rw [add_plain, add_plain] at a0 a1
        have f0 := hf 0 _ rfl
        have f1 := hf 1 _ rfl
        match xs, hyl with
        | [x0, x1], _ =>
          obtain ⟨k, hk, _, wk⟩ := DataW.trod_int Try.underlying3 f0
          obtain ⟨n1, hn1, _, wn⟩ := DataW.trod_int Try.underlying3 f1
          have e0 : u0 = .int .i64 k := by
            have : [u0] = [Value.int .i64 k] := hk
            simpa using this
          have e1 : u1 = .int .i64 n1 := by
            have : [u1] = [Value.int .i64 n1] := hn1
            simpa using this
          subst e0 e1
          exact ⟨(k, n1), rfl, a0, a1⟩
    obtain ⟨l, hll, hlp⟩ := list_of len hx
    refine ⟨some ⟨b, off, spot⟩, cap, l, by rw [hll], by omega, hm, fun h0 => ?_⟩
    obtain ⟨hs, hc0, _⟩ := hlp 0 (l[0]'h0) (List.getElem?_eq_getElem h0)
    subst hs
    refine ⟨b, off, cell_block hc0, rfl, fun i hi => ?_⟩
    rw [getD_of_lt l i hi]
    exact (hlp i _ (List.getElem?_eq_getElem hi)).2
set_option maxRecDepth 20000 in
theorem runs_of {fuel : Nat} {v : Value} {y : DataW H × List MemPlace} (h : DataW.trod enc Try.prog w base spare held fuel 22 [v] = some y) :
    ∃ a cap l, v = .slice a l.length cap ∧ l.length ≤ cap ∧ cap ≤ maxLen ∧ InR w (Till w.heap.size) a l := by
  rcases open_slice Try.underlying22 h with ⟨hcs, _⟩ | ⟨x, len, cap, m, n, D, Pl, hcs, _, hl, hm, hmm, _, hi⟩
  · cases hcs
    exact ⟨none, 0, [], rfl, Nat.le_refl _, by unfold maxLen; omega, fun h => absurd h (by simp)⟩
  · cases hcs
    have hml : len ≤ m := by rw [hmm]; split <;> omega
    have hc : Try.prog.cellsOf 31 = 1 := by kernel_rfl
    rw [hc] at hi
    obtain ⟨b, off, spot⟩ := x
    have hspot : 0 < len → spot = none := by
      intro h0
      obtain ⟨cs', h1, h2⟩ := hi 0 (by omega)
      obtain ⟨_, hcl, hat⟩ := World.cells?_some h1
      have h3 := hat 0 (by omega)
      rw [List.getElem?_eq_getElem (show 0 < cs'.length by omega)] at h3
      have := World.cell?_spot h3
      simpa [Addr.add] using this
    have hx : ∀ i, i < len → ∃ x : Rn, spot = none ∧ RnAt w (Till w.heap.size) b (off + i) x := by
      intro i hil
      have hs := hspot (by omega)
      subst hs
      obtain ⟨cs', h1, h2⟩ := hi i (by omega)
      obtain ⟨_, hcl, hat⟩ := World.cells?_some h1
      have h3 := hat 0 (by omega)
      match cs', hcl with
      | [u], _ =>
        obtain ⟨a, c, l, rfl, g1, g2, g3⟩ := its_of h2
        rw [add_plain, add_plain] at h3
        have h4 : w.cell? ⟨b, off + i, none⟩ = some (.slice a l.length c) := by simpa using h3
        exact ⟨⟨a, c, l⟩, rfl, h4, g1, g2, g3⟩
    obtain ⟨l, hll, hlp⟩ := list_of len hx
    refine ⟨some ⟨b, off, spot⟩, cap, l, by rw [hll], by omega, hm, fun h0 => ?_⟩
    obtain ⟨hs, hat⟩ := hlp 0 (l[0]'h0) (List.getElem?_eq_getElem h0)
    subst hs
    exact ⟨b, off, cell_block hat.c0, rfl, fun i x hx => (hlp i x hx).2⟩
end
end Go.Proofs.Ytkcgdmhggndhfaa
