/-
  Layer 5: arguments opened: numbers, texts, ops, and the struct Again; that they read on as long as what was there stays.
-/
import Derived.Test.YtdnaebbfbkdjoaaSkA
import Derived.Deep.Slices
import Derived.Deep.Fields
import Derived.Lib.SmallJoins
namespace Go.Proofs.Ytdnaebbfbkdjoaa
set_option linter.unusedVariables false
open Go.Joins Go.ChangeShapes Go.WideShapes Go.ChangeAt Go.RowKit Go.Deep

theorem list_of {α : Type} {p : Nat → α → Prop} : ∀ (m : Nat), (∀ i, i < m → ∃ x, p i x) → ∃ l : List α, l.length = m ∧ ∀ i x, l[i]? = some x → p i x := by
  intro m
  induction m with
  | zero => exact fun _ => ⟨[], rfl, fun i x h => by simp at h⟩
  | succ m ih =>
    intro h
    obtain ⟨l, hl, hp⟩ := ih fun i hi => h i (by omega)
    obtain ⟨x, hx⟩ := h m (by omega)
    refine ⟨l ++ [x], by simp [hl], fun i y hy => ?_⟩
    rcases Nat.lt_or_ge i l.length with h1 | h1
    · rw [List.getElem?_append_left h1] at hy
      exact hp i y hy
    · rw [List.getElem?_append_right h1] at hy
      have h2 : i - l.length = 0 := by
        rcases Nat.eq_zero_or_pos (i - l.length) with h0 | h0
        · exact h0
        · rw [List.getElem?_eq_none (by simp; omega)] at hy; cases hy
      rw [h2] at hy
      have : x = y := by simpa using hy
      subst this
      have : i = m := by omega
      subst this
      exact hx

theorem add_plain (b o i : Nat) : (⟨b, o, none⟩ : Addr).add i = ⟨b, o + i, none⟩ := by unfold Addr.add; split <;> simp_all

/-- Numbers. -/
def Ints (w : World) (a : Option Addr) (l : List Int) : Prop := 0 < l.length → ∃ b o, a = some ⟨b, o, none⟩ ∧ ∀ i x, l[i]? = some x → w.cell? ⟨b, o + i, none⟩ = some (.int .i64 x) ∧ (Lit.int .i64 x).wf = true
theorem Ints.keep {w w' : World} {a : Option Addr} {l : List Int} (h : Ints w a l) (f : Fr No w w') : Ints w' a l := fun hl => by
  obtain ⟨b, o, ha, hx⟩ := h hl
  exact ⟨b, o, ha, fun i x hi => ⟨f.cell (hx i x hi).1 (fun h => h), (hx i x hi).2⟩⟩

/-- Texts. -/
def Strs (w : World) (a : Option Addr) (l : List ByteArray) : Prop := 0 < l.length → ∃ b o, a = some ⟨b, o, none⟩ ∧ ∀ i x, l[i]? = some x → w.cell? ⟨b, o + i, none⟩ = some (.string x) ∧ x.size ≤ maxLen
theorem Strs.keep {w w' : World} {a : Option Addr} {l : List ByteArray} (h : Strs w a l) (f : Fr No w w') : Strs w' a l := fun hl => by
  obtain ⟨b, o, ha, hx⟩ := h hl
  exact ⟨b, o, ha, fun i x hi => ⟨f.cell (hx i x hi).1 (fun h => h), (hx i x hi).2⟩⟩
/-- Ops: a key, a value, a height. -/
structure OpAt (w : World) (b o : Nat) (x : Pr) : Prop where
  c0 : w.cell? ⟨b, o, none⟩ = some (.int .i64 x.k)
  c1 : w.cell? ⟨b, o + 1, none⟩ = some (.int .i64 x.v)
  c2 : w.cell? ⟨b, o + 2, none⟩ = some (.int .i64 x.h)
  wk : (Lit.int .i64 x.k).wf = true
  wv : (Lit.int .i64 x.v).wf = true
  wh : (Lit.int .i64 x.h).wf = true
theorem OpAt.keep {w w' : World} {b o : Nat} {x : Pr} (h : OpAt w b o x) (f : Fr No w w') : OpAt w' b o x :=
  ⟨f.cell h.c0 (fun h => h), f.cell h.c1 (fun h => h), f.cell h.c2 (fun h => h), h.wk, h.wv, h.wh⟩
def Ops (w : World) (a : Option Addr) (l : List Pr) : Prop := 0 < l.length → ∃ b o, a = some ⟨b, o, none⟩ ∧ ∀ i x, l[i]? = some x → OpAt w b (o + i * 3) x
theorem Ops.keep {w w' : World} {a : Option Addr} {l : List Pr} (h : Ops w a l) (f : Fr No w w') : Ops w' a l := fun hl => by
  obtain ⟨b, o, ha, hx⟩ := h hl
  exact ⟨b, o, ha, fun i x hi => (hx i x hi).keep f⟩
section
variable {H : Type} {enc : TypeId × Value → H} {w : World} {base : Nat} {spare : Nat → Bool} {held : Bool}
theorem cellsInt : Try.prog.cellsOf 3 = 1 := by kernel_rfl
set_option maxRecDepth 20000 in
theorem ints_of {fuel : Nat} {v : Value} {y : DataW H × List MemPlace} (h : DataW.trod enc Try.prog w base spare held fuel 23 [v] = some y) :
    ∃ a cap l, v = .slice a l.length cap ∧ l.length ≤ cap ∧ cap ≤ maxLen ∧ Ints w a l := by
  rcases open_ints Try.underlying23 Try.underlying3 cellsInt h with ⟨hcs, _⟩ | ⟨x, l, c, zs, hcs, _, hl, hm, hz, _, hcell, hwz⟩
  · cases hcs
    exact ⟨none, 0, [], rfl, Nat.le_refl _, by unfold maxLen; omega, fun h => absurd h (by simp)⟩
  · cases hcs
    have hzl : l ≤ zs.length := by rw [hz]; split <;> omega
    refine ⟨some x, c, zs.take l, by congr 1; simp; omega, by simp; omega, hm, ?_⟩
    intro hlen
    have hlen : 0 < l := by simp at hlen; omega
    obtain ⟨b, off, spot⟩ := x
    have hc0 := hcell 0 (by omega)
    have hspot : spot = none := by simpa [Addr.add] using World.cell?_spot hc0
    subst hspot
    refine ⟨b, off, rfl, fun i x hi => ?_⟩
    have hil : i < l := by
      rcases Nat.lt_or_ge i l with h' | h'
      · exact h'
      · rw [List.getElem?_eq_none (by simp; omega)] at hi; cases hi
    rw [List.getElem?_take, if_pos hil] at hi
    have h1 := hcell i (by omega)
    rw [add_plain] at h1
    have e : zs.getD i 0 = x := by simp [List.getD, hi]
    rw [e] at h1
    exact ⟨h1, hwz x (List.mem_of_getElem? hi)⟩
set_option maxRecDepth 20000 in
theorem slice_trod {t e : TypeId} {v : Value} {d : DataW H} {p : List MemPlace} {bb : Nat} (ht : Try.prog.underlying t = some (.slice e)) (hv : Value.okWide Try.prog w .any bb t v)
    (h : DataW.Trod enc Try.prog w base spare held t v d p) : ∃ fuel y, DataW.trod enc Try.prog w base spare held fuel t [v] = some y := by
  obtain ⟨a0, len0, cap0, rfl⟩ := okWide_slice ht hv
  obtain ⟨fuel, hf⟩ := h
  exact ⟨fuel, _, hf⟩
set_option maxRecDepth 20000 in
theorem ops_of {fuel : Nat} {v : Value} {y : DataW H × List MemPlace} (h : DataW.trod enc Try.prog w base spare held fuel 22 [v] = some y) :
    ∃ a cap l, v = .slice a l.length cap ∧ l.length ≤ cap ∧ cap ≤ maxLen ∧ Ops w a l := by
  rcases open_slice Try.underlying22 h with ⟨hcs, _⟩ | ⟨x, len, cap, m, n, D, Pl, hcs, _, hl, hm, hmm, _, hi⟩
  · cases hcs
    exact ⟨none, 0, [], rfl, Nat.le_refl _, by unfold maxLen; omega, fun h => absurd h (by simp)⟩
  · cases hcs
    have hml : len ≤ m := by rw [hmm]; split <;> omega
    have hc : Try.prog.cellsOf 32 = 3 := by kernel_rfl
    rw [hc] at hi
    obtain ⟨b, off, spot⟩ := x
    have hspot : 0 < len → spot = none := by
      intro h0
      obtain ⟨cs', h1, h2⟩ := hi 0 (by omega)
      obtain ⟨_, hcl, hat⟩ := World.cells?_some h1
      have h3 := hat 0 (by omega)
      rw [List.getElem?_eq_getElem (show 0 < cs'.length by omega)] at h3
      have := World.cell?_spot h3
      simpa [Addr.add] using this
    have hx : ∀ i, i < len → ∃ x : Pr, spot = none ∧ OpAt w b (off + i * 3) x := by
      intro i hil
      have hs := hspot (by omega)
      subst hs
      obtain ⟨cs', h1, h2⟩ := hi i (by omega)
      obtain ⟨_, hcl, hat⟩ := World.cells?_some h1
      obtain ⟨xs, n', hn', hy, hlen, hyl, hf⟩ := DataW.trod_struct Try.underlying32 h2
      have a0 := hat 0 (by omega)
      have a1 := hat 1 (by omega)
      have a2 := hat 2 (by omega)
      match cs', hcl with
      | [u0, u1, u2], _ =>
        rw [add_plain, add_plain] at a0 a1 a2
        have f0 := hf 0 _ rfl
        have f1 := hf 1 _ rfl
        have f2 := hf 2 _ rfl
        match xs, hyl with
        | [x0, x1, x2], _ =>
          obtain ⟨k, hk, _, wk⟩ := DataW.trod_int Try.underlying3 f0
          obtain ⟨n1, hn1, _, wn⟩ := DataW.trod_int Try.underlying3 f1
          obtain ⟨m1, hm1, _, wm⟩ := DataW.trod_int Try.underlying3 f2
          have e0 : u0 = .int .i64 k := by
            have : [u0] = [Value.int .i64 k] := hk
            simpa using this
          have e1 : u1 = .int .i64 n1 := by
            have : [u1] = [Value.int .i64 n1] := hn1
            simpa using this
          have e2 : u2 = .int .i64 m1 := by
            have : [u2] = [Value.int .i64 m1] := hm1
            simpa using this
          subst e0 e1 e2
          exact ⟨⟨k, n1, m1⟩, rfl, a0, a1, a2, wk, wn, wm⟩
    obtain ⟨l, hll, hlp⟩ := list_of len hx
    refine ⟨some ⟨b, off, spot⟩, cap, l, by rw [hll], by omega, hm, fun h0 => ?_⟩
    have hs : spot = none := (hlp 0 (l[0]'h0) (List.getElem?_eq_getElem h0)).1
    subst hs
    exact ⟨b, off, rfl, fun i x hx => (hlp i x hx).2⟩
set_option maxRecDepth 20000 in
theorem strs_of {fuel : Nat} {v : Value} {y : DataW H × List MemPlace} (h : DataW.trod enc Try.prog w base spare held fuel 49 [v] = some y) :
    ∃ a cap l, v = .slice a l.length cap ∧ l.length ≤ cap ∧ cap ≤ maxLen ∧ Strs w a l := by
  rcases open_slice Try.underlying49 h with ⟨hcs, _⟩ | ⟨x, len, cap, m, n, D, Pl, hcs, _, hl, hm, hmm, _, hi⟩
  · cases hcs
    exact ⟨none, 0, [], rfl, Nat.le_refl _, by unfold maxLen; omega, fun h => absurd h (by simp)⟩
  · cases hcs
    have hml : len ≤ m := by rw [hmm]; split <;> omega
    have hc : Try.prog.cellsOf 9 = 1 := by kernel_rfl
    rw [hc] at hi
    obtain ⟨b, off, spot⟩ := x
    have hspot : 0 < len → spot = none := by
      intro h0
      obtain ⟨cs', h1, h2⟩ := hi 0 (by omega)
      obtain ⟨_, hcl, hat⟩ := World.cells?_some h1
      have h3 := hat 0 (by omega)
      rw [List.getElem?_eq_getElem (show 0 < cs'.length by omega)] at h3
      have := World.cell?_spot h3
      simpa [Addr.add] using this
    have hx : ∀ i, i < len → ∃ x : ByteArray, spot = none ∧ w.cell? ⟨b, off + i, none⟩ = some (.string x) ∧ x.size ≤ maxLen := by
      intro i hil
      have hs := hspot (by omega)
      subst hs
      obtain ⟨cs', h1, h2⟩ := hi i (by omega)
      obtain ⟨_, hcl, hat⟩ := World.cells?_some h1
      obtain ⟨s, e0, _, hsz⟩ := DataW.trod_string Try.underlying9 h2
      subst e0
      have a0 := hat 0 (by simp)
      rw [add_plain, add_plain] at a0
      exact ⟨s, rfl, by simpa using a0, hsz⟩
    obtain ⟨l, hll, hlp⟩ := list_of len hx
    refine ⟨some ⟨b, off, spot⟩, cap, l, by rw [hll], by omega, hm, fun h0 => ?_⟩
    have hs : spot = none := (hlp 0 (l[0]'h0) (List.getElem?_eq_getElem h0)).1
    subst hs
    exact ⟨b, off, rfl, fun i x hx => (hlp i x hx).2⟩
set_option maxRecDepth 20000 in
theorem again_of {r : Reach} {b0 : Nat} {v : Value} {d : DataW H} {p : List MemPlace}
    (hv : Value.okWide Try.prog w r b0 65 v) (h : DataW.Trod enc Try.prog w base spare held 65 v d p) :
    ∃ (a : Option Addr) (cap : Nat) (l : List Int) (at_ x g : Int), v = .agg #[.slice a l.length cap, .int .i64 at_, .int .i64 x, .int .i64 g] ∧ l.length ≤ cap ∧ cap ≤ maxLen ∧ Ints w a l ∧ (Lit.int .i64 at_).wf = true ∧ (Lit.int .i64 x).wf = true ∧ (Lit.int .i64 g).wf = true := by
  obtain ⟨v0, v1, v2, v3, y0, y1, y2, y3, n, rfl, _, _, h0, h1, h2, h3⟩ := open_agg4 (Try.underlying65) (by kernel_rfl) (by kernel_rfl) hv h
  obtain ⟨a, cap, l, e0, hc, hm, hx⟩ := ints_of h0
  obtain ⟨at_, e1, _, w1⟩ := DataW.trod_int Try.underlying3 h1
  obtain ⟨x, e2, _, w2⟩ := DataW.trod_int Try.underlying3 h2
  obtain ⟨g, e3, _, w3⟩ := DataW.trod_int Try.underlying3 h3
  simp only [List.cons.injEq, and_true] at e1 e2 e3
  subst e0 e1 e2 e3
  exact ⟨a, cap, l, at_, x, g, rfl, hc, hm, hx, w1, w2, w3⟩
end
end Go.Proofs.Ytdnaebbfbkdjoaa
