/-
  ReclogChains: its argument opened; what a log over zones 0, 1, .. means (mathematics).
-/
import Derived.Test.YtcekgalppbfnhaaDoorRlP
import Derived.Deep.Fields
import Derived.Deep.Strs
import Derived.Lib.SmallJoins
namespace Go.Proofs.YtcekgalppbfnhaaDoor
set_option linter.unusedVariables false
open Go.Joins Go.ChangeShapes Go.WideShapes Go.ChangeAt Go.RowKit Go.Deep

theorem array6 {a : Array Value} (h : a.size = 6) : ∃ x0 x1 x2 x3 x4 x5, a = #[x0, x1, x2, x3, x4, x5] := by
  obtain ⟨l⟩ := a
  simp only [List.size_toArray] at h
  match l, h with
  | [x0, x1, x2, x3, x4, x5], _ => exact ⟨x0, x1, x2, x3, x4, x5, rfl⟩
theorem chain_fields : ∃ f0 f1 f2 f3 : Field, Tryd.prog.underlying 37 = some (.struct #[f0, f1, f2, f3]) ∧ (f0.type, f0.offset) = (35, 0) ∧ (f1.type, f1.offset) = (25, 3) ∧ (f2.type, f2.offset) = (3, 4) ∧ (f3.type, f3.offset) = (33, 5) :=
  ⟨_, _, _, _, Tryd.underlying37, rfl, rfl, rfl, rfl⟩
theorem geo_fields : ∃ f0 f1 f2 : Field, Tryd.prog.underlying 35 = some (.struct #[f0, f1, f2]) ∧ (f0.type, f0.offset) = (3, 0) ∧ (f1.type, f1.offset) = (3, 1) ∧ (f2.type, f2.offset) = (3, 2) :=
  ⟨_, _, _, Tryd.underlying35, rfl, rfl, rfl⟩
theorem cellsGeo : Tryd.prog.cellsOf 35 = 3 := by kernel_rfl
theorem cellsChain : Tryd.prog.cellsOf 37 = 6 := by kernel_rfl
theorem cellsTxs : Tryd.prog.cellsOf 25 = 1 := by kernel_rfl
theorem cellsInts : Tryd.prog.cellsOf 33 = 1 := by kernel_rfl
set_option maxRecDepth 20000 in
theorem chain_of {H : Type} {enc : TypeId × Value → H} {w : World} {base : Nat} {spare : Nat → Bool} {held : Bool} {r : Reach} {b0 : Nat} {v : Value} {d : DataW H} {p : List MemPlace}
    (hv : Value.okWide Tryd.prog w r b0 37 v) (h : DataW.Trod enc Tryd.prog w base spare held 37 v d p) :
    ∃ (z s o : Int) (a : Option Addr) (cap : Nat) (l : List Tx) (fl : Int) (ka : Option Addr) (kc : Nat) (ks : List Int), v = .agg #[.int .i64 z, .int .i64 s, .int .i64 o, .slice a l.length cap, .int .i64 fl, .slice ka ks.length kc] ∧ (Lit.int .i64 z).wf = true ∧ (Lit.int .i64 s).wf = true ∧ (Lit.int .i64 o).wf = true ∧
      l.length ≤ cap ∧ cap ≤ maxLen ∧ Texts w a l ∧ (Lit.int .i64 fl).wf = true ∧ ks.length ≤ kc ∧ kc ≤ maxLen ∧ Ints w ka ks := by
  obtain ⟨f0, f1, f2, f3, hs, e0, e1, e2, e3⟩ := chain_fields
  obtain ⟨cs, rfl, hsz⟩ := okWide_struct hs hv
  obtain ⟨x0, x1, x2, x3, x4, x5, rfl⟩ := array6 (hsz.trans cellsChain)
  obtain ⟨fuel, hf⟩ := h
  obtain ⟨y0, y1, y2, y3, n, _, _, h0, h1, h2, h3⟩ := trod_struct4 hs hf
  obtain ⟨t0, o0⟩ := Prod.mk.inj e0
  obtain ⟨t1, o1⟩ := Prod.mk.inj e1
  obtain ⟨t2, o2⟩ := Prod.mk.inj e2
  obtain ⟨t3, o3⟩ := Prod.mk.inj e3
  rw [t0, o0, cellsGeo] at h0
  rw [t1, o1, cellsTxs] at h1
  rw [t2, o2, cellsInt] at h2
  rw [t3, o3, cellsInts] at h3
  simp only [Value.cells, List.drop_zero, List.take_succ_cons, List.take_zero, List.drop_succ_cons] at h0 h1 h2 h3
  obtain ⟨g0, g1, g2, hg, q0, q1, q2⟩ := geo_fields
  obtain ⟨u0, u1, u2, n', _, _, k0, k1, k2⟩ := trod_struct3 hg h0
  obtain ⟨t0', o0'⟩ := Prod.mk.inj q0
  obtain ⟨t1', o1'⟩ := Prod.mk.inj q1
  obtain ⟨t2', o2'⟩ := Prod.mk.inj q2
  rw [t0', o0', cellsInt] at k0
  rw [t1', o1', cellsInt] at k1
  rw [t2', o2', cellsInt] at k2
  simp only [List.drop_zero, List.take_succ_cons, List.take_zero, List.drop_succ_cons] at k0 k1 k2
  obtain ⟨z, c0, _, wz⟩ := DataW.trod_int Tryd.underlying3 k0
  obtain ⟨s, c1, _, ws⟩ := DataW.trod_int Tryd.underlying3 k1
  obtain ⟨o, c2, _, wo⟩ := DataW.trod_int Tryd.underlying3 k2
  obtain ⟨fl, c3, _, wf⟩ := DataW.trod_int Tryd.underlying3 h2
  simp only [List.cons.injEq, and_true] at c0 c1 c2 c3
  subst c0 c1 c2 c3
  obtain ⟨a, cap, l, rfl, r1, r2, r3⟩ := texts_of h1
  obtain ⟨ka, kc, ks, rfl, r4, r5, r6⟩ := ints_of h3
  exact ⟨z, s, o, a, cap, l, fl, ka, kc, ks, rfl, wz, ws, wo, r1, r2, r3, wf, r4, r5, r6⟩
end Go.Proofs.YtcekgalppbfnhaaDoor
