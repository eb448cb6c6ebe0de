/-
  Arguments opened: bytes; and that they read on as long as what was there stays.
-/
import Derived.Test.YtiacdakaolghmaaMem
import Derived.Deep.Slices
import Derived.Deep.Fields
namespace Go.Proofs.Ytiacdakaolghmaa
set_option linter.unusedVariables false
open Go.ChangeShapes Go.WideShapes Go.ChangeAt Go.RowKit Go.Deep

theorem list_of {α : Type} {p : Nat → α → Prop} : ∀ (m : Nat), (∀ i, i < m → ∃ x, p i x) → ∃ l : List α, l.length = m ∧ ∀ i x, l[i]? = some x → p i x := by
  intro m
  induction m with
  | zero => exact fun _ => ⟨[], rfl, fun i x h => by simp at h⟩
  | succ m ih =>
    intro h
    obtain ⟨l, hl, hp⟩ := ih fun i hi => h i (by omega)
    obtain ⟨x, hx⟩ := h m (by omega)
    refine ⟨l ++ [x], by simp [hl], fun i y hy => ?_⟩
    rcases Nat.lt_or_ge i l.length with h1 | h1
    · rw [List.getElem?_append_left h1] at hy
      exact hp i y hy
    · rw [List.getElem?_append_right h1] at hy
      have h2 : i - l.length = 0 := by
        rcases Nat.eq_zero_or_pos (i - l.length) with h0 | h0
        · exact h0
        · rw [List.getElem?_eq_none (by simp; omega)] at hy; cases hy
      rw [h2] at hy
      have : x = y := by simpa using hy
      subst this
      have : i = m := by omega
      subst this
      exact hx

theorem Rd.keep {w w' : World} {a : Option Addr} {l : List UInt8} (h : Rd w a l) (f : Fr No w w') : Rd w' a l := ((In.of_rd h).keep f fun _ _ h => h).rd
theorem add_plain (b o i : Nat) : (⟨b, o, none⟩ : Addr).add i = ⟨b, o + i, none⟩ := by unfold Addr.add; split <;> simp_all

/-- Numbers. -/
def Ints (w : World) (a : Option Addr) (l : List Int) : Prop := 0 < l.length → ∃ b o, a = some ⟨b, o, none⟩ ∧ ∀ i x, l[i]? = some x → w.cell? ⟨b, o + i, none⟩ = some (.int .i64 x) ∧ (Lit.int .i64 x).wf = true
theorem Ints.keep {w w' : World} {a : Option Addr} {l : List Int} (h : Ints w a l) (f : Fr No w w') : Ints w' a l := fun hl => by
  obtain ⟨b, o, ha, hx⟩ := h hl
  exact ⟨b, o, ha, fun i x hi => ⟨f.cell (hx i x hi).1 (fun h => h), (hx i x hi).2⟩⟩

section
variable {H : Type} {enc : TypeId × Value → H} {w : World} {base : Nat} {spare : Nat → Bool} {held : Bool}
theorem cellsU8 : Try.prog.cellsOf 5 = 1 := by kernel_rfl
theorem cellsInt : Try.prog.cellsOf 3 = 1 := by kernel_rfl
theorem bytes_of {fuel : Nat} {v : Value} {y : DataW H × List MemPlace} (h : DataW.trod enc Try.prog w base spare held fuel 25 [v] = some y) :
    ∃ a cap l, v = .slice a l.length cap ∧ l.length ≤ cap ∧ cap ≤ maxLen ∧ Rd w a l := by
  rcases open_ints Try.underlying25 Try.underlying5 cellsU8 h with ⟨hcs, _⟩ | ⟨x, l, c, zs, hcs, _, hl, hm, hz, _, hcell, hwz⟩
  · cases hcs
    exact ⟨none, 0, [], rfl, Nat.le_refl _, by simp [maxLen], Rd.nil _ _⟩
  · cases hcs
    have hzl : l ≤ zs.length := by rw [hz]; split <;> omega
    refine ⟨some x, c, (zs.take l).map byteOf, by congr 1; simp; omega, by simp; omega, hm, ?_⟩
    intro hlen
    have hlen : 0 < l := by simp at hlen; omega
    obtain ⟨b, off, spot⟩ := x
    have hc0 := hcell 0 (by omega)
    have hspot : spot = none := by simpa [Addr.add] using World.cell?_spot hc0
    subst hspot
    refine ⟨b, off, rfl, fun i hi => ?_⟩
    have hi : i < l := by simp at hi; omega
    have h1 := hcell i (by omega)
    rw [add_plain] at h1
    rw [h1]
    have hg : ((zs.take l).map byteOf).getD i 0 = byteOf (zs.getD i 0) := by
      simp [List.getD, hi, show i < zs.length by omega]
    rw [hg, byteOf_nat (hwz _ (by simp [List.getD, show i < zs.length by omega]))]
set_option maxRecDepth 20000 in
/-- A slice that came in, as the readings above take it. -/
theorem slice_trod {t e : TypeId} {v : Value} {d : DataW H} {p : List MemPlace} {bb : Nat} (ht : Try.prog.underlying t = some (.slice e)) (hv : Value.okWide Try.prog w .any bb t v)
    (h : DataW.Trod enc Try.prog w base spare held t v d p) : ∃ fuel y, DataW.trod enc Try.prog w base spare held fuel t [v] = some y := by
  obtain ⟨a0, len0, cap0, rfl⟩ := okWide_slice ht hv
  obtain ⟨fuel, hf⟩ := h
  exact ⟨fuel, _, hf⟩
end
end Go.Proofs.Ytiacdakaolghmaa
