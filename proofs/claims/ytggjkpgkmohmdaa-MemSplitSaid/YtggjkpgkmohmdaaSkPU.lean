/-
  Layer 5, lists of string,tithebarn/mem.none: a list of towers in memory; the search along the levels (below).
-/
import Derived.Test.YtggjkpgkmohmdaaSkWU
import Derived.Laws.MakeOwn
import Derived.Lib.Hide
import Derived.Handy
namespace Go.Proofs.Ytggjkpgkmohmdaa.KU
set_option linter.unusedVariables false
open Go.RowKit

/-- A value that has no cell. -/
def noV (_ : Unit) : Value := .agg #[]
abbrev N2 := Nd ByteArray Unit
/-- A LIST of this program's. -/
abbrev SkL (w : World) (b hb hs : Nat) (ns : List N2) : Prop := SkM ltS Value.string noV (Value.string ⟨#[]⟩) (Value.agg #[]) 89 92 87 (nxt ltS ns) (ns.length : Int) w b hb hs ns
/-- The path: what is known of it from level j on. -/
def pathC (hb : Nat) (pt : Nat → Option N2) (j : Nat) : Array Value := ((List.range 12).map fun t => if j ≤ t then Value.pointer (some ⟨spotN hb (pt t), 0, none⟩) else Value.pointer none).toArray
theorem pathC_set (hb : Nat) (pt : Nat → Option N2) (j : Nat) (o : Option N2) (hj : j < 12) : (pathC hb pt (j + 1)).setIfInBounds j (.pointer (some ⟨spotN hb o, 0, none⟩)) = pathC hb (fun t => if t = j then o else pt t) j := by
  apply Array.ext
  · simp [pathC]
  · intro t h1 h2
    have ht : t < 12 := by simpa [pathC] using h2
    rw [Array.getElem_setIfInBounds (by simpa [pathC] using ht)]
    simp only [pathC, List.getElem_toArray, List.getElem_map, List.getElem_range]
    by_cases e : j = t
    · subst e
      simp
    · rw [if_neg e, if_neg (show ¬ t = j from fun h => e h.symm)]
      by_cases h3 : j ≤ t
      · rw [if_pos h3, if_pos (by omega)]
      · rw [if_neg h3, if_neg (by omega)]
theorem pathC_none (hb : Nat) (pt : Nat → Option N2) : pathC hb pt 12 = #[.pointer none, .pointer none, .pointer none, .pointer none, .pointer none, .pointer none, .pointer none, .pointer none, .pointer none, .pointer none, .pointer none, .pointer none] := by
  apply Array.ext
  · simp [pathC]
  · intro t h1 h2
    have ht : t < 12 := by simpa using h2
    simp only [pathC, List.getElem_toArray, List.getElem_map, List.getElem_range]
    rw [if_neg (by omega)]
    rcases t with _ | _ | _ | _ | _ | _ | _ | _ | _ | _ | _ | _ | t <;> first | rfl | omega
theorem pathJ {w : World} {q hb : Nat} {pt : Nat → Option N2} {j : Nat} (h : At w q 101 (pathC hb pt (j + 1))) (hj : j + 1 ≤ 12) : w.cell? ⟨q, j, none⟩ = some (.pointer none) ∧ w.frozen? ⟨q, j, none⟩ = false :=
  ⟨(h.cell j).trans (by
    simp only [pathC, List.getElem?_toArray, List.getElem?_map]
    rw [List.getElem?_range (by omega)]
    show some (if j + 1 ≤ j then _ else _) = _
    rw [if_neg (by omega)]), h.frozen j⟩
theorem pathRound (hb : Nat) (w : World) {ns : List N2} {k : ByteArray} {wr : World} {r : Array Value} (j : Nat) (pt : Nat → Option N2) (o' : Option N2) (hj : j + 1 ≤ 12) (hpt : ∀ t, j + 1 ≤ t → t < 12 → EndsAt ltS ns k t (pt t)) (he : EndsAt ltS ns k j o')
    (ho : ∀ x, o' = some x → x ∈ ns ∧ j < x.h ∧ ltS x.k k = true) (hP : At wr (w.heap.size + 1) 101 (pathC hb pt (j + 1))) (hR : At wr w.heap.size 101 r) (hf : Fr No w wr) :
    ∃ (j' : Nat) (pt' : Nat → Option N2) (o : Option N2), Value.int .i64 ((j : Int) - 1) = .int .i64 ((j' : Int) - 1) ∧ j' ≤ 12 ∧ Value.pointer (some ⟨spotN hb o', 0, none⟩) = .pointer (some ⟨spotN hb o, 0, none⟩) ∧ (∀ t, j' ≤ t → t < 12 → EndsAt ltS ns k t (pt' t)) ∧ (∀ x, o = some x → x ∈ ns ∧ j' ≤ x.h ∧ ltS x.k k = true) ∧
    At (wr.setCell ⟨w.heap.size + 1, j, none⟩ (.pointer (some ⟨spotN hb o', 0, none⟩))) (w.heap.size + 1) 101 (pathC hb pt' j') ∧ At (wr.setCell ⟨w.heap.size + 1, j, none⟩ (.pointer (some ⟨spotN hb o', 0, none⟩))) w.heap.size 101 r ∧ Fr No w (wr.setCell ⟨w.heap.size + 1, j, none⟩ (.pointer (some ⟨spotN hb o', 0, none⟩))) := by
  refine ⟨j, fun t => if t = j then o' else pt t, o', rfl, by omega, rfl, fun t h1 h2 => ?_, fun x hx => ⟨(ho x hx).1, Nat.le_of_lt (ho x hx).2.1, (ho x hx).2.2⟩, ?_, ?_, hf.setCell (fun h => absurd h (by show ¬ w.heap.size + 1 < w.heap.size; omega)) _⟩
  · by_cases e : t = j
    · subst e
      simpa using he
    · show EndsAt ltS ns k t (if t = j then o' else pt t)
      rw [if_neg e]
      exact hpt t (by omega) h2
  · rw [← pathC_set hb pt j o' (by omega)]
    exact hP.set_ j _
  · exact hR.keep ((Fr.refl (One (w.heap.size + 1)) wr).setCell (p := ⟨w.heap.size + 1, j, none⟩) (fun _ => show w.heap.size + 1 = w.heap.size + 1 from rfl) _) (fun h => absurd (show w.heap.size = w.heap.size + 1 from h) (by omega))
theorem path12 {w : World} {g : Nat} {t : TypeId} {v : Nat → Value} (h : At w g t #[.pointer none, .pointer none, .pointer none, .pointer none, .pointer none, .pointer none, .pointer none, .pointer none, .pointer none, .pointer none, .pointer none, .pointer none]) : At ((((((((((((w.setCell ⟨g, 0, none⟩ (v 0)).setCell ⟨g, 1, none⟩ (v 1)).setCell ⟨g, 2, none⟩ (v 2)).setCell ⟨g, 3, none⟩ (v 3)).setCell ⟨g, 4, none⟩ (v 4)).setCell ⟨g, 5, none⟩ (v 5)).setCell ⟨g, 6, none⟩ (v 6)).setCell ⟨g, 7, none⟩ (v 7)).setCell ⟨g, 8, none⟩ (v 8)).setCell ⟨g, 9, none⟩ (v 9)).setCell ⟨g, 10, none⟩ (v 10)).setCell ⟨g, 11, none⟩ (v 11)) g t ((List.range 12).map v).toArray := by
  have := ((((((((((((h.set_ 0 (v 0)).set_ 1 (v 1)).set_ 2 (v 2)).set_ 3 (v 3)).set_ 4 (v 4)).set_ 5 (v 5)).set_ 6 (v 6)).set_ 7 (v 7)).set_ 8 (v 8)).set_ 9 (v 9)).set_ 10 (v 10)).set_ 11 (v 11))
  simpa [List.range_succ] using this
theorem fr12 {a w : World} {g : Nat} {v : Nat → Value} (h : Fr No a w) (hg : a.heap.size ≤ g) : Fr No a ((((((((((((w.setCell ⟨g, 0, none⟩ (v 0)).setCell ⟨g, 1, none⟩ (v 1)).setCell ⟨g, 2, none⟩ (v 2)).setCell ⟨g, 3, none⟩ (v 3)).setCell ⟨g, 4, none⟩ (v 4)).setCell ⟨g, 5, none⟩ (v 5)).setCell ⟨g, 6, none⟩ (v 6)).setCell ⟨g, 7, none⟩ (v 7)).setCell ⟨g, 8, none⟩ (v 8)).setCell ⟨g, 9, none⟩ (v 9)).setCell ⟨g, 10, none⟩ (v 10)).setCell ⟨g, 11, none⟩ (v 11)) := by
  have no : ∀ i, (Addr.mk g i none).block < a.heap.size → No (Addr.mk g i none).block := fun i h => absurd (show g < a.heap.size from h) (by omega)
  exact ((((((((((((h.setCell (no 0) (v 0)).setCell (no 1) (v 1)).setCell (no 2) (v 2)).setCell (no 3) (v 3)).setCell (no 4) (v 4)).setCell (no 5) (v 5)).setCell (no 6) (v 6)).setCell (no 7) (v 7)).setCell (no 8) (v 8)).setCell (no 9) (v 9)).setCell (no 10) (v 10)).setCell (no 11) (v 11))
theorem pathC_zero (hb : Nat) (pt : Nat → Option N2) : pathC hb pt 0 = ((List.range 12).map fun t => Value.pointer (some ⟨spotN hb (pt t), 0, none⟩)).toArray := by simp [pathC]
theorem sizePath : (Try.prog.info? 101).map (·.size) = some 12 := by kernel_rfl
/-- How many stand behind a node, by its pointer: the search's measure. -/
def leftV (ns : List N2) (v : Value) : Nat := match v with
  | .pointer (some a) => match ns.find? fun x => x.b == a.block with
    | some x => left_ ltS ns (some x.k)
    | none => ns.length + 1
  | _ => 0
theorem leftV_head {w : World} {b hb hs : Nat} {ns : List N2} (h : SkL w b hb hs ns) : leftV ns (.pointer (some ⟨hb, 0, none⟩)) = ns.length + 1 := by
  have e : (ns.find? fun x => x.b == hb) = none := find_none fun x hx => by simpa using (h.apart x hx).1
  show (match ns.find? fun x => x.b == hb with | some x => left_ ltS ns (some x.k) | none => ns.length + 1) = _
  rw [e]
theorem leftV_node {w : World} {b hb hs : Nat} {ns : List N2} (h : SkL w b hb hs ns) {x : N2} (hx : x ∈ ns) : leftV ns (.pointer (some ⟨x.b, 0, none⟩)) = left_ ltS ns (some x.k) := by
  show (match ns.find? fun y => y.b == x.b with | some y => left_ ltS ns (some y.k) | none => ns.length + 1) = _
  cases e : ns.find? fun y => y.b == x.b with
  | none => exact absurd (by simp : (x.b == x.b) = true) (List.find?_eq_none.1 e x hx)
  | some y =>
    have hy := List.find?_some e
    rw [h.inj y (List.mem_of_find?_eq_some e) x hx (.inl (by simpa using hy))]
theorem leftV_step {w : World} {b hb hs : Nat} {ns : List N2} (h : SkL w b hb hs ns) {o : Option N2} (ho : ∀ x, o = some x → x ∈ ns) {i : Nat} {y : N2} (hy : nxt ltS ns i (o.map (·.k)) = some y) :
    leftV ns (.pointer (some ⟨y.b, 0, none⟩)) < leftV ns (.pointer (some ⟨spotN hb o, 0, none⟩)) := by
  rw [leftV_node h (nxt_some hy).1]
  have h1 := left_step ordS hy
  cases o with
  | none =>
    show _ < leftV ns (.pointer (some ⟨hb, 0, none⟩))
    rw [leftV_head h]
    have : left_ ltS ns (some y.k) ≤ ns.length := List.length_filter_le _ _
    omega
  | some x =>
    show _ < leftV ns (.pointer (some ⟨x.b, 0, none⟩))
    rw [leftV_node h (ho x rfl)]
    exact h1
set_option maxRecDepth 20000 in
set_option maxHeartbeats 2000000 in
theorem below_c (b hb hs : Nat) (ns : List N2) (k : ByteArray) (w : World) (h : SkL w b hb hs ns) :
    Calls Try.prog 49 #[.pointer (some ⟨b, 0, none⟩), Value.string k] w fun e w' => ∃ pt : Nat → Option N2, (∀ t, t < 12 → EndsAt ltS ns k t (pt t)) ∧ e = .returned (.agg (pathC hb pt 0)) ∧ Fr No w w' := by
  have A0 := (At.new w 101 #[.pointer none, .pointer none, .pointer none, .pointer none, .pointer none, .pointer none, .pointer none, .pointer none, .pointer none, .pointer none, .pointer none, .pointer none]).keep ((Fr.refl No _).alloc (.cells #[.pointer none, .pointer none, .pointer none, .pointer none, .pointer none, .pointer none, .pointer none, .pointer none, .pointer none, .pointer none, .pointer none, .pointer none] 101)) (fun h => h)
  have A1 := At.new (w.alloc (.cells #[.pointer none, .pointer none, .pointer none, .pointer none, .pointer none, .pointer none, .pointer none, .pointer none, .pointer none, .pointer none, .pointer none, .pointer none] 101)) 101 #[.pointer none, .pointer none, .pointer none, .pointer none, .pointer none, .pointer none, .pointer none, .pointer none, .pointer none, .pointer none, .pointer none, .pointer none]
  have f2 := ((Fr.refl No w).alloc (.cells #[.pointer none, .pointer none, .pointer none, .pointer none, .pointer none, .pointer none, .pointer none, .pointer none, .pointer none, .pointer none, .pointer none, .pointer none] 101)).alloc (.cells #[.pointer none, .pointer none, .pointer none, .pointer none, .pointer none, .pointer none, .pointer none, .pointer none, .pointer none, .pointer none, .pointer none, .pointer none] 101)
  have hs1 : (w.alloc (.cells #[.pointer none, .pointer none, .pointer none, .pointer none, .pointer none, .pointer none, .pointer none, .pointer none, .pointer none, .pointer none, .pointer none, .pointer none] 101)).heap.size = w.heap.size + 1 := by simp
  rw [hs1] at A1
  obtain ⟨W2, hW2⟩ : ∃ W2, (w.alloc (.cells #[.pointer none, .pointer none, .pointer none, .pointer none, .pointer none, .pointer none, .pointer none, .pointer none, .pointer none, .pointer none, .pointer none, .pointer none] 101)).alloc (.cells #[.pointer none, .pointer none, .pointer none, .pointer none, .pointer none, .pointer none, .pointer none, .pointer none, .pointer none, .pointer none, .pointer none, .pointer none] 101) = W2 := ⟨_, rfl⟩
  rw [hW2] at A0 A1 f2
  have c0 := f2.cell (h.lst.cell 0) (fun h => h)
  simp at c0
  have HL := Lib.hid h
  have HA0 := Lib.hid A0
  have HA1 := Lib.hid A1
  have HF2 := Lib.hid f2
  clear A0 A1 f2 hs1 h
  go_enter Try.func49, Try.ntmps49
  go_wp2_with fail
  clear hW2 c0
  go_loopw [6, 7] (fun u i wr => ∃ (j : Nat) (pt : Nat → Option N2) (o : Option N2), i = .int .i64 ((j : Int) - 1) ∧ j ≤ 12 ∧ u = .pointer (some ⟨spotN hb o, 0, none⟩) ∧ (∀ t, j ≤ t → t < 12 → EndsAt ltS ns k t (pt t)) ∧ (∀ x, o = some x → x ∈ ns ∧ j ≤ x.h ∧ ltS x.k k = true) ∧
    At wr (w.heap.size + 1) 101 (pathC hb pt j) ∧ At wr w.heap.size 101 #[.pointer none, .pointer none, .pointer none, .pointer none, .pointer none, .pointer none, .pointer none, .pointer none, .pointer none, .pointer none, .pointer none, .pointer none] ∧ Fr No w wr) (fun _ i _ => (intOf i + 1).toNat)
  case atStart => exact ⟨12, fun _ => none, none, rfl, Nat.le_refl _, rfl, fun t h1 h2 => absurd h2 (by omega), fun x hx => (by cases hx), by rw [pathC_none]; exact HA1.out, HA0.out, HF2.out⟩
  case round =>
    obtain ⟨j, pt, o, hi, hj, rfl, hpt, ho, hP, hR, hfr⟩ := hrel
    cases j with
    | zero =>
      rw [show (((0 : Nat) : Int) - 1) = -1 by omega] at hi
      subst hi
      have HPT := Lib.hid hpt
      have d0 := hP.cell 0
      have r0 := hR.cell 0
      have f0 := hR.frozen 0
      have d1 := hP.cell 1
      have r1 := hR.cell 1
      have f1 := hR.frozen 1
      have d2 := hP.cell 2
      have r2 := hR.cell 2
      have f2 := hR.frozen 2
      have d3 := hP.cell 3
      have r3 := hR.cell 3
      have f3 := hR.frozen 3
      have d4 := hP.cell 4
      have r4 := hR.cell 4
      have f4 := hR.frozen 4
      have d5 := hP.cell 5
      have r5 := hR.cell 5
      have f5 := hR.frozen 5
      have d6 := hP.cell 6
      have r6 := hR.cell 6
      have f6 := hR.frozen 6
      have d7 := hP.cell 7
      have r7 := hR.cell 7
      have f7 := hR.frozen 7
      have d8 := hP.cell 8
      have r8 := hR.cell 8
      have f8 := hR.frozen 8
      have d9 := hP.cell 9
      have r9 := hR.cell 9
      have f9 := hR.frozen 9
      have d10 := hP.cell 10
      have r10 := hR.cell 10
      have f10 := hR.frozen 10
      have d11 := hP.cell 11
      have r11 := hR.cell 11
      have f11 := hR.frozen 11
      simp only [pathC, Nat.zero_le, if_true] at d0 d1 d2 d3 d4 d5 d6 d7 d8 d9 d10 d11
      simp at d0 r0 d1 r1 d2 r2 d3 r3 d4 r4 d5 r5 d6 r6 d7 r7 d8 r8 d9 r9 d10 r10 d11 r11
      go_wp2_with fail
      have HO := path12 (v := fun t => .pointer (some ⟨spotN hb (pt t), 0, none⟩)) hR
      have HF := fr12 (v := fun t => .pointer (some ⟨spotN hb (pt t), 0, none⟩)) hfr (Nat.le_refl _)
      rw [← pathC_zero] at HO
      refine ⟨rfl, .agg (pathC hb pt 0), results_cell_row (t := 101) (cs := pathC hb pt 0) (fr := (0, 0)) rfl _ _ w.heap.size _ (by rfl) HO Try.underlying101 (by rfl) (sizePath.trans (by simp [pathC])), pt, fun t ht => HPT.out t (by omega) ht, rfl, HF⟩
    | succ j =>
      rw [show (((j + 1 : Nat) : Int) - 1) = (j : Int) by omega] at hi
      subst hi
      have HLr := Lib.hid (HL.out.keep hfr (fun _ _ h => h))
      have HPT := Lib.hid hpt
      have HP := Lib.hid hP
      have HR := Lib.hid hR
      have HFr := Lib.hid hfr
      clear hpt hP hR hfr
      go_wp2_with fail
      go_loopw [6] (fun u wr' => ∃ o' : Option N2, u = .pointer (some ⟨spotN hb o', 0, none⟩) ∧ (∀ x, o' = some x → x ∈ ns ∧ j < x.h ∧ ltS x.k k = true) ∧ wr = wr') (fun u _ => leftV ns u)
      case atStart => exact ⟨o, rfl, fun x hx => ⟨(ho x hx).1, (ho x hx).2.1, (ho x hx).2.2⟩, rfl⟩
      case round =>
        obtain ⟨o', rfl, ho', rfl⟩ := hrel
        obtain ⟨n, q0, q1, q2, q3, _⟩ := HLr.out.place o' j (by omega) (fun x hx => ⟨(ho' x hx).1, (ho' x hx).2.1⟩)
        obtain ⟨s, hs'⟩ : ∃ s, slotN hs o' = s := ⟨_, rfl⟩
        rw [hs'] at q0 q3
        have HO' := Lib.hid ho'
        clear ho ho'
        cases e : nxt ltS ns j (o'.map (·.k)) with
        | none =>
          rw [e] at q3
          have HE : Hid (EndsAt ltS ns k j o') := Lib.hid ⟨HO'.out, fun y hy => by
            have hy : nxt ltS ns j (o'.map (·.k)) = some y := hy
            rw [e] at hy
            cases hy⟩
          replace q3 : wr.cell? ⟨s, j, none⟩ = some (.pointer none) := q3
          clear e
          obtain ⟨q6, q7⟩ := pathJ HP.out hj
          go_wp2_with fail
          go_roundw
          case rel => exact pathRound hb w j pt o' hj HPT.out HE.out HO'.out HP.out HR.out HFr.out
          case measure => show (intOf (.int .i64 ((j : Int) - 1)) + 1).toNat < (intOf (.int .i64 (j : Int)) + 1).toNat
                          simp [intOf]
                          try omega
        | some y =>
          rw [e] at q3
          replace q3 : wr.cell? ⟨s, j, none⟩ = some (.pointer (some ⟨y.b, 0, none⟩)) := q3
          have hy := nxt_some e
          have q4 := (HLr.out.nod y hy.1).1.cell 0
          simp at q4
          have HST := Lib.hid (leftV_step HLr.out (o := o') (fun x hx => (HO'.out x hx).1) e)
          cases hlt : ltS y.k k with
          | true =>
            have HY : Hid (∀ x, some y = some x → x ∈ ns ∧ j < x.h ∧ ltS x.k k = true) := Lib.hid fun x hx => by
              cases hx
              exact ⟨hy.1, hy.2.1, hlt⟩
            have d1 : Op.bytesLess (y.k).toList (k).toList = true := hlt
            clear hy e
            go_wp2_with fail
            go_roundw
            case rel => exact ⟨some y, rfl, HY.out, by simp⟩
            case measure => exact HST.out
          | false =>
            have d1 : Op.bytesLess (y.k).toList (k).toList = false := hlt
            have HE : Hid (EndsAt ltS ns k j o') := Lib.hid ⟨HO'.out, fun z hz => by
              have hz : nxt ltS ns j (o'.map (·.k)) = some z := hz
              rw [e] at hz
              cases hz
              exact hlt⟩
            clear hy e
            obtain ⟨q6, q7⟩ := pathJ HP.out hj
            go_wp2_with fail
            go_roundw
            case rel => exact pathRound hb w j pt o' hj HPT.out HE.out HO'.out HP.out HR.out HFr.out
            case measure => show (intOf (.int .i64 ((j : Int) - 1)) + 1).toNat < (intOf (.int .i64 (j : Int)) + 1).toNat
                            simp [intOf]
                            try omega
end Go.Proofs.Ytggjkpgkmohmdaa.KU
