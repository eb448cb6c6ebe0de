/-
  Layer 7: arguments opened: a geometry, and calls of a device.
-/
import Derived.Test.YtkoebafalbcnbaaOpenT
import Derived.Lib.SmallJoins
namespace Go.Proofs.Ytkoebafalbcnbaa
set_option linter.unusedVariables false
open Go.Joins Go.ChangeShapes Go.WideShapes Go.ChangeAt Go.RowKit Go.Deep

/-- One call of a device, as it lies in memory. -/
structure Op7 where
  k : Int
  z : Int
  t : Int
  n : Int
  da : Option Addr
  dc : Nat
  d : List UInt8
  ka : Option Addr
  kc : Nat
  ks : List Int
structure Op7At (w : World) (b o : Nat) (x : Op7) : Prop where
  c0 : w.cell? ⟨b, o, none⟩ = some (.int .i64 x.k)
  c1 : w.cell? ⟨b, o + 1, none⟩ = some (.int .i64 x.z)
  c2 : w.cell? ⟨b, o + 2, none⟩ = some (.int .i64 x.t)
  c3 : w.cell? ⟨b, o + 3, none⟩ = some (.int .i64 x.n)
  c4 : w.cell? ⟨b, o + 4, none⟩ = some (.slice x.da x.d.length x.dc)
  c5 : w.cell? ⟨b, o + 5, none⟩ = some (.slice x.ka x.ks.length x.kc)
  wk : (Lit.int .i64 x.k).wf = true
  wz : (Lit.int .i64 x.z).wf = true
  wt : (Lit.int .i64 x.t).wf = true
  wn : (Lit.int .i64 x.n).wf = true
  dl : x.d.length ≤ x.dc
  dm : x.dc ≤ maxLen
  dr : Rd w x.da x.d
  kl : x.ks.length ≤ x.kc
  km : x.kc ≤ maxLen
  kr : Ints w x.ka x.ks
theorem Op7At.keep {w w' : World} {b o : Nat} {x : Op7} (h : Op7At w b o x) (f : Fr No w w') : Op7At w' b o x :=
  ⟨f.cell h.c0 (fun h => h), f.cell h.c1 (fun h => h), f.cell h.c2 (fun h => h), f.cell h.c3 (fun h => h), f.cell h.c4 (fun h => h), f.cell h.c5 (fun h => h), h.wk, h.wz, h.wt, h.wn, h.dl, h.dm, h.dr.keep f, h.kl, h.km, h.kr.keep f⟩
def Op7s (w : World) (a : Option Addr) (l : List Op7) : Prop := 0 < l.length → ∃ b o, a = some ⟨b, o, none⟩ ∧ ∀ i x, l[i]? = some x → Op7At w b (o + i * 6) x
theorem Op7s.keep {w w' : World} {a : Option Addr} {l : List Op7} (h : Op7s w a l) (f : Fr No w w') : Op7s w' a l := fun hl => by
  obtain ⟨b, o, ha, hx⟩ := h hl
  exact ⟨b, o, ha, fun i x hi => (hx i x hi).keep f⟩
section
variable {H : Type} {enc : TypeId × Value → H} {w : World} {base : Nat} {spare : Nat → Bool} {held : Bool}
theorem geo_of {r : Reach} {b0 : Nat} {v : Value} {d : DataW H} {p : List MemPlace}
    (hv : Value.okWide Try.prog w r b0 23 v) (h : DataW.Trod enc Try.prog w base spare held 23 v d p) :
    ∃ (z s o : Int), v = .agg #[.int .i64 z, .int .i64 s, .int .i64 o] ∧ (Lit.int .i64 z).wf = true ∧ (Lit.int .i64 s).wf = true ∧ (Lit.int .i64 o).wf = true := by
  obtain ⟨v0, v1, v2, y0, y1, y2, n, rfl, _, _, h0, h1, h2⟩ := open_agg3 (Try.underlying23) (by kernel_rfl) (by kernel_rfl) hv h
  obtain ⟨z, e0, _, wz⟩ := DataW.trod_int Try.underlying3 h0
  obtain ⟨s, e1, _, ws⟩ := DataW.trod_int Try.underlying3 h1
  obtain ⟨o, e2, _, wo⟩ := DataW.trod_int Try.underlying3 h2
  simp only [List.cons.injEq, and_true] at e0 e1 e2
  subst e0 e1 e2
  exact ⟨z, s, o, rfl, wz, ws, wo⟩
set_option maxRecDepth 20000 in
theorem ops7_of {fuel : Nat} {v : Value} {y : DataW H × List MemPlace} (h : DataW.trod enc Try.prog w base spare held fuel 24 [v] = some y) :
    ∃ a cap l, v = .slice a l.length cap ∧ l.length ≤ cap ∧ cap ≤ maxLen ∧ Op7s w a l := by
  rcases open_slice Try.underlying24 h with ⟨hcs, _⟩ | ⟨x, len, cap, m, n, D, Pl, hcs, _, hl, hm, hmm, _, hi⟩
  · cases hcs
    exact ⟨none, 0, [], rfl, Nat.le_refl _, by unfold maxLen; omega, fun h => absurd h (by simp)⟩
  · cases hcs
    have hml : len ≤ m := by rw [hmm]; split <;> omega
    have hc : Try.prog.cellsOf 33 = 6 := by kernel_rfl
    rw [hc] at hi
    obtain ⟨b, off, spot⟩ := x
    have hspot : 0 < len → spot = none := by
      intro h0
      obtain ⟨cs', h1, h2⟩ := hi 0 (by omega)
      obtain ⟨_, hcl, hat⟩ := World.cells?_some h1
      have h3 := hat 0 (by omega)
      rw [List.getElem?_eq_getElem (show 0 < cs'.length by omega)] at h3
      have := World.cell?_spot h3
      simpa [Addr.add] using this
    have hx : ∀ i, i < len → ∃ x : Op7, spot = none ∧ Op7At w b (off + i * 6) x := by
      intro i hil
      have hs := hspot (by omega)
      subst hs
      obtain ⟨cs', h1, h2⟩ := hi i (by omega)
      obtain ⟨_, hcl, hat⟩ := World.cells?_some h1
      obtain ⟨xs, n', hn', hy, hlen, hyl, hf⟩ := DataW.trod_struct Try.underlying33 h2
      have a0 := hat 0 (by omega)
      have a1 := hat 1 (by omega)
      have a2 := hat 2 (by omega)
      have a3 := hat 3 (by omega)
      have a4 := hat 4 (by omega)
      have a5 := hat 5 (by omega)
      match cs', hcl with
      | [u0, u1, u2, u3, u4, u5], _ =>
        rw [add_plain, add_plain] at a0 a1 a2 a3 a4 a5
        have f0 := hf 0 _ rfl
        have f1 := hf 1 _ rfl
        have f2 := hf 2 _ rfl
        have f3 := hf 3 _ rfl
        have f4 := hf 4 _ rfl
        have f5 := hf 5 _ rfl
        match xs, hyl with
        | [x0, x1, x2, x3, x4, x5], _ =>
          obtain ⟨n0, hn0, _, w0⟩ := DataW.trod_int Try.underlying3 f0
          obtain ⟨n1, hn1, _, w1⟩ := DataW.trod_int Try.underlying3 f1
          obtain ⟨n2, hn2, _, w2⟩ := DataW.trod_int Try.underlying3 f2
          obtain ⟨n3, hn3, _, w3⟩ := DataW.trod_int Try.underlying3 f3
          obtain ⟨a, c, l, hv4, g1, g2, g3⟩ := bytes_of (v := u4) f4
          obtain ⟨a', c', l', hv5, g4, g5, g6⟩ := ints_of (v := u5) f5
          have e0 : u0 = .int .i64 n0 := by
            have : [u0] = [Value.int .i64 n0] := hn0
            simpa using this
          have e1 : u1 = .int .i64 n1 := by
            have : [u1] = [Value.int .i64 n1] := hn1
            simpa using this
          have e2 : u2 = .int .i64 n2 := by
            have : [u2] = [Value.int .i64 n2] := hn2
            simpa using this
          have e3 : u3 = .int .i64 n3 := by
            have : [u3] = [Value.int .i64 n3] := hn3
            simpa using this
          subst e0 e1 e2 e3 hv4 hv5
          exact ⟨⟨n0, n1, n2, n3, a, c, l, a', c', l'⟩, rfl, a0, a1, a2, a3, a4, a5, w0, w1, w2, w3, g1, g2, g3, g4, g5, g6⟩
    obtain ⟨l, hll, hlp⟩ := list_of len hx
    refine ⟨some ⟨b, off, spot⟩, cap, l, by rw [hll], by omega, hm, fun h0 => ?_⟩
    have hs : spot = none := (hlp 0 (l[0]'h0) (List.getElem?_eq_getElem h0)).1
    subst hs
    exact ⟨b, off, rfl, fun i x hx => (hlp i x hx).2⟩
end
end Go.Proofs.Ytkoebafalbcnbaa
