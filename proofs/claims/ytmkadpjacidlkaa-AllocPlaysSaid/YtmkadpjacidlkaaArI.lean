/-
  Layer 8, the program's own table: Take.
-/
import Derived.Test.YtmkadpjacidlkaaArG
import Derived.Test.YtmkadpjacidlkaaRnd
namespace Go.Proofs.Ytmkadpjacidlkaa
set_option linter.unusedVariables false
open Go.RowKit Go.Shelf
attribute [local go_sem] Oper.semAt_some

theorem results_two {P : Program} {fn : Func} {p u : Tmp} {t1 t2 : TypeId} (h : fn.results = #[.cell p t1, .cell u t2]) (u1 : P.underlying t1 = some (.int .i64)) (u2 : P.underlying t2 = some (.int .i64)) (tmps : Array Value) (w : World) (a1 a2 : Addr) (v1 v2 : Value)
    (hp : tmps.getD p undef = .pointer (some a1)) (hu : tmps.getD u undef = .pointer (some a2)) (c1 : w.cell? a1 = some v1) (c2 : w.cell? a2 = some v2) : (results fn tmps).run P w = .ok (.tuple #[v1, v2]) w := by
  have hp' : tmps[p]?.getD undef = .pointer (some a1) := by simpa using hp
  have hu' : tmps[u]?.getD undef = .pointer (some a2) := by simpa using hu
  simp [results, h, hp', hu', asAddr, loadVar, isAgg, run_underlying u1, run_underlying u2, c1, c2, Result.andThen, go_sem]
/-- The lowest free zone, of those that are gone through. -/
theorem first_free {b : Tb} {z : Zx b.r 0} (h : [z] <+: zl b.r 0 b.r.length) : z.val = freeT b ∧ freeT b < b.r.length := by
  have h1 : [z.val] <+: (List.range b.r.length).filter fun z => ((b.r.getD z 0 : Nat) : Int) == 0 := by
    rw [← zl_val b.r 0 b.r.length (Nat.le_refl _)]
    exact h.map (·.val)
  obtain ⟨l, h2⟩ := h1
  have h3 : (List.range b.r.length).find? (fun z => ((b.r.getD z 0 : Nat) : Int) == 0) = some z.val := by
    rw [← List.head?_filter, ← h2]
    rfl
  rw [List.find?_range_eq_some] at h3
  have hz := z.2
  have h4 : ¬ z.val < freeT b := fun hlt => free_low hlt (by have := hz.2; omega)
  have h5 : ¬ freeT b < z.val := fun hlt => by
    have h6 := h3.2.2 _ hlt
    have h7 := free_at (t := b) (by omega)
    rw [h7] at h6
    simp at h6
  have : z.val = freeT b := by omega
  exact ⟨this, by rw [← this]; exact hz.1⟩
theorem none_free {b : Tb} (h : zl b.r 0 b.r.length = []) : ¬ freeT b < b.r.length := fun hlt => by
  have h1 := zl_val b.r 0 b.r.length (Nat.le_refl _)
  rw [h] at h1
  have h2 : freeT b ∈ (List.range b.r.length).filter fun z => ((b.r.getD z 0 : Nat) : Int) == 0 := List.mem_filter.2 ⟨List.mem_range.2 hlt, by rw [free_at hlt]; rfl⟩
  rw [← h1] at h2
  simp at h2
/-- The boxes of a Take. -/
structure TkS (w : World) (t : Nat) (x v e : Int) (W : World) : Prop where
  b0 : At W w.heap.size 23 #[.pointer (some ⟨t, 0, none⟩)]
  b1 : At W (w.heap.size + 1) 3 #[.int .i64 x]
  b2 : At W (w.heap.size + 1 + 1) 3 #[.int .i64 v]
  b3 : At W (w.heap.size + 1 + 1 + 1) 34 #[.int .i64 e]
def w4 (w : World) (t : Nat) (x : Int) : World := (((w.alloc (.cells #[.pointer (some ⟨t, 0, none⟩)] 23)).alloc (.cells #[.int .i64 x] 3)).alloc (.cells #[.int .i64 0] 3)).alloc (.cells #[.int .i64 0] 34)
theorem w4_ok (w : World) (t : Nat) (x : Int) : TkS w t x 0 0 (w4 w t x) ∧ Fr No w (w4 w t x) ∧ (w4 w t x).heap.size = w.heap.size + 4 := by
  obtain ⟨wa, ha⟩ : ∃ wa, w.alloc (.cells #[.pointer (some ⟨t, 0, none⟩)] 23) = wa := ⟨_, rfl⟩
  obtain ⟨wb, hb⟩ : ∃ wb, wa.alloc (.cells #[.int .i64 x] 3) = wb := ⟨_, rfl⟩
  obtain ⟨wc, hc⟩ : ∃ wc, wb.alloc (.cells #[.int .i64 0] 3) = wc := ⟨_, rfl⟩
  obtain ⟨wd, hd⟩ : ∃ wd, wc.alloc (.cells #[.int .i64 0] 34) = wd := ⟨_, rfl⟩
  have sa : wa.heap.size = w.heap.size + 1 := by rw [← ha]; simp
  have sb : wb.heap.size = w.heap.size + 1 + 1 := by rw [← hb, World.size_alloc, sa]
  have sc : wc.heap.size = w.heap.size + 1 + 1 + 1 := by rw [← hc, World.size_alloc, sb]
  have sd : wd.heap.size = w.heap.size + 4 := by rw [← hd, World.size_alloc, sc]
  have fa : Fr No w wa := by rw [← ha]; exact (Fr.refl _ _).alloc _
  have fb : Fr No wa wb := by rw [← hb]; exact (Fr.refl _ _).alloc _
  have fc : Fr No wb wc := by rw [← hc]; exact (Fr.refl _ _).alloc _
  have fd : Fr No wc wd := by rw [← hd]; exact (Fr.refl _ _).alloc _
  have e : w4 w t x = wd := by unfold w4; rw [ha, hb, hc, hd]
  rw [e]
  have k0 : At wa w.heap.size 23 #[.pointer (some ⟨t, 0, none⟩)] := by rw [← ha]; exact At.new _ _ _
  have k1 : At wb wa.heap.size 3 #[.int .i64 x] := by rw [← hb]; exact At.new _ _ _
  have k2 : At wc wb.heap.size 3 #[.int .i64 0] := by rw [← hc]; exact At.new _ _ _
  have k3 : At wd wc.heap.size 34 #[.int .i64 0] := by rw [← hd]; exact At.new _ _ _
  rw [sa] at k1
  rw [sb] at k2
  rw [sc] at k3
  exact ⟨⟨((k0.keep fb (fun h => h)).keep fc (fun h => h)).keep fd (fun h => h), (k1.keep fc (fun h => h)).keep fd (fun h => h), k2.keep fd (fun h => h), k3⟩, ((fa.trans fb).trans fc).trans fd, sd⟩
theorem TkS.keep {w W W' : World} {t : Nat} {x v e : Int} {T : Nat → Prop} (h : TkS w t x v e W) (f : Fr T W W') (hT : ∀ k, w.heap.size ≤ k → k < w.heap.size + 4 → ¬ T k) : TkS w t x v e W' :=
  ⟨h.b0.keep f (hT _ (by omega) (by omega)), h.b1.keep f (hT _ (by omega) (by omega)), h.b2.keep f (hT _ (by omega) (by omega)), h.b3.keep f (hT _ (by omega) (by omega))⟩
theorem TkS.own {w W W' : World} {t : Nat} {x v e : Int} {row : Option Nat} {B : Nat} (h : TkS w t x v e W) (hg : W.grownBy W' row) (hr : Turns B W row) : TkS w t x v e W' :=
  ⟨own_at h.b0 hg hr, own_at h.b1 hg hr, own_at h.b2 hg hr, own_at h.b3 hg hr⟩
theorem TkS.put2 {w W : World} {t : Nat} {x v e : Int} (h : TkS w t x v e W) (u : Int) : TkS w t x u e (W.setCell ⟨w.heap.size + 1 + 1, 0, none⟩ (.int .i64 u)) := by
  have f : Fr (One (w.heap.size + 1 + 1)) W (W.setCell ⟨w.heap.size + 1 + 1, 0, none⟩ (.int .i64 u)) := (Fr.refl (One (w.heap.size + 1 + 1)) W).setCell (p := ⟨w.heap.size + 1 + 1, 0, none⟩) (fun _ => (rfl : w.heap.size + 1 + 1 = w.heap.size + 1 + 1)) _
  exact ⟨h.b0.keep f (fun e => by have : w.heap.size = w.heap.size + 1 + 1 := e; omega), h.b1.keep f (fun e => by have : w.heap.size + 1 = w.heap.size + 1 + 1 := e; omega), h.b2.set_ 0 _, h.b3.keep f (fun e => by have : w.heap.size + 1 + 1 + 1 = w.heap.size + 1 + 1 := e; omega)⟩
theorem TkS.put3 {w W : World} {t : Nat} {x v e : Int} (h : TkS w t x v e W) (u : Int) : TkS w t x v u (W.setCell ⟨w.heap.size + 1 + 1 + 1, 0, none⟩ (.int .i64 u)) := by
  have f : Fr (One (w.heap.size + 1 + 1 + 1)) W (W.setCell ⟨w.heap.size + 1 + 1 + 1, 0, none⟩ (.int .i64 u)) := (Fr.refl (One (w.heap.size + 1 + 1 + 1)) W).setCell (p := ⟨w.heap.size + 1 + 1 + 1, 0, none⟩) (fun _ => (rfl : w.heap.size + 1 + 1 + 1 = w.heap.size + 1 + 1 + 1)) _
  exact ⟨h.b0.keep f (fun e => by have : w.heap.size = w.heap.size + 1 + 1 + 1 := e; omega), h.b1.keep f (fun e => by have : w.heap.size + 1 = w.heap.size + 1 + 1 + 1 := e; omega), h.b2.keep f (fun e => by have : w.heap.size + 1 + 1 = w.heap.size + 1 + 1 + 1 := e; omega), h.b3.set_ 0 _⟩
theorem TkS.cells {w W : World} {t : Nat} {x v e : Int} (h : TkS w t x v e W) : W.cell? ⟨w.heap.size, 0, none⟩ = some (.pointer (some ⟨t, 0, none⟩)) ∧ W.cell? ⟨w.heap.size + 1, 0, none⟩ = some (.int .i64 x) ∧ W.cell? ⟨w.heap.size + 1 + 1, 0, none⟩ = some (.int .i64 v) ∧ W.cell? ⟨w.heap.size + 1 + 1 + 1, 0, none⟩ = some (.int .i64 e) ∧
    W.frozen? ⟨w.heap.size + 1 + 1, 0, none⟩ = false ∧ W.frozen? ⟨w.heap.size + 1 + 1 + 1, 0, none⟩ = false :=
  ⟨h.b0.cell 0, h.b1.cell 0, h.b2.cell 0, h.b3.cell 0, h.b2.frozen 0, h.b3.frozen 0⟩
section
variable {w : World} {t : Nat} {F : Nat → Prop} {b : Tb}
set_option maxHeartbeats 1600000 in
theorem takeNo_c (h : Ta w t F b) (x : Int) (hO : okRole x = false) : Calls Try.prog 7 #[.pointer (some ⟨t, 0, none⟩), .int .i64 x] w (MoveT Ta t F (takT b x) (.tuple #[.int .i64 (takZ b x), .int .i64 (takE b x)]) w) := by
  have E1 : takE b x = 80 := by unfold takE; rw [hO]; rfl
  have E2 : takZ b x = 0 := by unfold takZ; rw [E1]; rfl
  have E3 : takT b x = b := by unfold takT; rw [E1]; rfl
  rw [E1, E2, E3]
  have HT := Lib.hid h
  have CU := Lib.hid (used_c x)
  rw [hO] at CU
  obtain ⟨k1, k2, k3⟩ := w4_ok w t x
  obtain ⟨W4, hW4⟩ : ∃ W, w4 w t x = W := ⟨_, rfl⟩
  have l1 := (At.new w 23 #[.pointer (some ⟨t, 0, none⟩)]).lt
  rw [hW4] at k1 k2 k3
  obtain ⟨c0, c1, c2, c3, q2, q3⟩ := k1.cells
  have m1 := (k1.put2 0).put3 80
  have f1 : Fr No w ((W4.setCell ⟨w.heap.size + 1 + 1, 0, none⟩ (.int .i64 0)).setCell ⟨w.heap.size + 1 + 1 + 1, 0, none⟩ (.int .i64 80)) := (k2.setCell (p := ⟨w.heap.size + 1 + 1, 0, none⟩) (fun h => absurd h (by show ¬ (w.heap.size + 1 + 1 < w.heap.size); omega)) _).setCell (p := ⟨w.heap.size + 1 + 1 + 1, 0, none⟩) (fun h => absurd h (by show ¬ (w.heap.size + 1 + 1 + 1 < w.heap.size); omega)) _
  have M1 := Lib.hid m1
  have F1 := Lib.hid f1
  unfold w4 at hW4
  have HW := Lib.hid hW4
  have C4 := Lib.hid (show Calls Try.prog 7 #[.pointer (some ⟨t, 0, none⟩), .int .i64 x] w (MoveT Ta t F b (.tuple #[.int .i64 0, .int .i64 80]) w) = Calls Try.prog 7 #[.pointer (some ⟨t, 0, none⟩), .int .i64 x] w (MoveT Ta t F b (.tuple #[.int .i64 0, .int .i64 80]) w) from rfl)
  clear k1 k2 k3 m1 f1 h E1 E2 E3 hO hW4 l1 C4 c0
  go_enter Try.func7, Try.ntmps7
  go_wp2_with fail
  rw [HW.out]
  refine (CU.out _).mono ?_
  rintro e w' ⟨rfl, rfl⟩
  go_wp2_with fail
  refine bodyPost_ret (results_two rfl Try.underlying3 Try.underlying34 _ _ _ _ _ _ rfl rfl (M1.out.b2.cell 0) (M1.out.b3.cell 0)) rfl ?_
  exact ⟨rfl, F, HT.out.keep F1.out (fun _ _ h => h), fun k hk => .inl hk, F1.out.sub fun _ _ h => h.elim⟩
/-- What the rounds of a Take keep. -/
def TkI (w w1 : World) (t : Nat) (x : Int) (r : List Nat) (pre : List (Zx r 0)) (W : World) : Prop := pre = [] ∧ (∃ v, TkS w t x v 0 W) ∧ Fr No w W ∧ w1.heap.size ≤ W.heap.size
theorem own_tkI (w w1 : World) (t : Nat) (x : Int) (r : List Nat) (h : w.heap.size ≤ w1.heap.size) : OwnFrom w1.heap.size (TkI w w1 t x r) := fun pre W W' row ⟨h1, ⟨v, h2⟩, h3, h4⟩ hg hr =>
  ⟨h1, ⟨v, h2.own hg hr⟩, own_fr h h3 hg hr, Nat.le_trans h4 hg.size⟩
theorem own_frF {S : Nat → Prop} {w W W' : World} {row : Option Nat} {B : Nat} (hB : w.heap.size ≤ B) (h : Fr S w W) (hg : W.grownBy W' row) (hr : Turns B W row) : Fr S w W' :=
  ⟨hg.os.trans h.os, hg.tape.trans h.tape, hg.output.trans h.output, Nat.le_trans h.size hg.size, fun k hk hn =>
    (hg.block k (Nat.lt_of_lt_of_le hk h.size) (fun e => by have := (hr k e.symm).1; omega)).trans (h.block k hk hn)⟩
theorem own_ta {W W' : World} {row : Option Nat} {B : Nat} {t : Nat} {F : Nat → Prop} {b : Tb} (h : Ta W t F b) (hg : W.grownBy W' row) (hr : Turns B W row) : Ta W' t F b := by
  obtain ⟨h0, g, a, c, h1, h2, h3, h4⟩ := h
  exact ⟨fun k hk => Nat.lt_of_lt_of_le (h0 k hk) hg.size, g, a, c, ⟨own_at h1.hd hg hr, own_at h1.hr hg hr, h1.ne, own_rowI h1.row hg hr⟩, h2, h3, h4⟩
/-- What stands behind the round that takes. -/
def TkX (w : World) (t : Nat) (F : Nat → Prop) (x : Int) (b : Tb) (c : Code) (pre : List (Zx b.r 0)) (W : World) : Prop := c = .ret ∧ ∃ z : Zx b.r 0, pre = [z] ∧ TkS w t x (z.val : Int) 0 W ∧ Ta W t F (setT b z.val x.toNat) ∧ Fr F w W
theorem own_tkX (w w1 : World) (t : Nat) (F : Nat → Prop) (x : Int) (b : Tb) (c : Code) (h : w.heap.size ≤ w1.heap.size) : OwnFrom w1.heap.size (TkX w t F x b c) := fun pre W W' row ⟨h0, z, h1, h2, h3, h4⟩ hg hr =>
  ⟨h0, z, h1, h2.own hg hr, own_ta h3 hg hr, own_frF h h4 hg hr⟩
set_option maxRecDepth 100000 in
set_option maxHeartbeats 4000000 in
theorem takeYes_c (h : Ta w t F b) (hw : WT b) (x : Int) (hO : okRole x = true) : Calls Try.prog 7 #[.pointer (some ⟨t, 0, none⟩), .int .i64 x] w (MoveT Ta t F (takT b x) (.tuple #[.int .i64 (takZ b x), .int .i64 (takE b x)]) w) := by
  have HT := Lib.hid h
  have CU := Lib.hid (used_c x)
  rw [hO] at CU
  have hx := okRole_iff.1 hO
  have hn64 := hw.n64
  obtain ⟨k1, k2, k3⟩ := w4_ok w t x
  obtain ⟨W4, hW4⟩ : ∃ W, w4 w t x = W := ⟨_, rfl⟩
  rw [hW4] at k1 k2 k3
  obtain ⟨c0, c1, c2, c3, q2, q3⟩ := k1.cells
  unfold w4 at hW4
  have HW := Lib.hid hW4
  obtain ⟨h0, g, a, c, h1, h2, h3, h4⟩ := h
  have CZ := Lib.hid (zonesOf_c (h1.keep k2 (fun h => h) (fun h => h) (fun _ _ h => h)) 0)
  have K1 := Lib.hid k1
  have K2 := Lib.hid k2
  have K3 := Lib.hid k3
  have HG : Hid (g < w.heap.size ∧ t < w.heap.size) := Lib.hid ⟨h0 g h3, h0 t h2⟩
  clear k1 k2 k3 h0 h1 h2 h3 h4 hO hW4 hw
  refine (callsIn_wide (n := 5)).1 ?_
  refine callsIn_of_wp_marks Try.func7 rfl trivial ?_ rfl
  simp only [Try.ntmps7, List.size_toArray, List.length_cons, List.length_nil, Nat.reduceAdd, Nat.reduceSub, Array.replicate_succ, Array.replicate_zero, List.push_toArray, List.append_toArray, List.nil_append, List.cons_append]
  refine wpIn_wide.2 ?_
  go_wp2_with fail
  rw [HW.out]
  refine (CU.out _).mono ?_
  rintro e w' ⟨rfl, rfl⟩
  go_wp2_with fail
  refine CZ.out.mono ?_
  rintro e w2 ⟨B1, B2, rfl, f2, hs, hb1, hb2⟩
  have HF2 := Lib.hid f2
  have hz2 := f2.size
  rw [K3.out] at hb1 hb2 hz2
  clear f2 CZ
  go_wp2_with fail
  refine (wpIn_wide (n := 5)).1 ?_
  have hf1 := K2.out.trans HF2.out
  have hB2 : B2 < w2.heap.size := cell_block hs.b2
  have hg0 := HG.out.1
  have hz4 := K3.out
  have hgt : SeqZ w2 B1 B2 t g b.r 0 := hs
  obtain ⟨h0, g', a', c', k1, k2, k3, k4⟩ := HT.out
  have hgg : g' = g := by
    have h8 := (hf1.cell k1.cells.1 (fun h => h)).symm.trans hs.c0
    simp only [Option.some.injEq, Value.slice.injEq, Addr.mk.injEq] at h8
    exact h8.1.1
  subst hgg
  have HTA := Lib.hid (And.intro h0 (And.intro k1 (And.intro k2 (And.intro k3 k4))))
  have hne := k1.ne
  have htl := h0 t k2
  clear h0 k1 k2 k3 k4
  refine wpIn_rangeFunc_ownH rfl (by omega) (gf := 42) (lb := #[.pointer (some ⟨B1, 0, none⟩), .pointer (some ⟨B2, 0, none⟩)]) rfl trivial (enters_of Try.func42 (by kernel_rfl) rfl)
    (hs.stops 4 (by omega) (fun k => k = w.heap.size + 1 + 1 ∨ w2.heap.size ≤ k) hn64 (fun h => by omega) (fun h => by omega))
    (fun h k => h.trans k) (fun W k o o' hk _ _ _ => Fr.grown (grownBy_putObj' W k o') (fun j e => by cases e; exact .inr hk)) (Below.refl _ _) (fun _ => rfl)
    (TkI w w2 t x b.r) (TkX w t F x b) (own_tkI w w2 t x b.r hf1.size) (fun c => own_tkX w w2 t F x b c hf1.size)
    ⟨rfl, ⟨0, K1.out.keep HF2.out (fun _ _ _ h => h)⟩, hf1, Nat.le_refl _⟩
    (fun z a' W => a' = { tmps := #[.pointer (some ⟨t, 0, none⟩), .int .i64 x, .pointer (some ⟨w.heap.size, 0, none⟩), .pointer (some ⟨w.heap.size + 1, 0, none⟩), .pointer (some ⟨w.heap.size + 1 + 1, 0, none⟩), .pointer (some ⟨w.heap.size + 1 + 1 + 1, 0, none⟩), .int .i64 x, .bool true, .bool false, .pointer (some ⟨t, 0, none⟩), seqZ B1 B2, .int .i64 ((z.val : Nat) : Int), undef, undef, undef, undef, undef, undef, undef, undef], defers := [] } ∧ TkS w t x (z.val : Int) 0 W)
    (fun z a' => fun _ W W' row ⟨h1, h2⟩ hg hr => ⟨h1, h2.own hg hr⟩) ?assign ?body ?done ?stop
  case assign =>
    rintro y pre z W K ⟨h1, ⟨v, h2⟩, h3, h4⟩ hK
    obtain ⟨e0, e1, e2, e3, e4, e5⟩ := h2.cells
    have m1 := h2.put2 (z.val : Int)
    have hk1 := hK { tmps := #[.pointer (some ⟨t, 0, none⟩), .int .i64 x, .pointer (some ⟨w.heap.size, 0, none⟩), .pointer (some ⟨w.heap.size + 1, 0, none⟩), .pointer (some ⟨w.heap.size + 1 + 1, 0, none⟩), .pointer (some ⟨w.heap.size + 1 + 1 + 1, 0, none⟩), .int .i64 x, .bool true, .bool false, .pointer (some ⟨t, 0, none⟩), seqZ B1 B2, .int .i64 ((z.val : Nat) : Int), undef, undef, undef, undef, undef, undef, undef, undef], defers := [] } (W.setCell ⟨w.heap.size + 1 + 1, 0, none⟩ (.int .i64 ((z.val : Nat) : Int)))
      ((KeepsOthers.setCell _ _ _).from _) ((Fr.refl (fun k => k = w.heap.size + 1 + 1 ∨ w2.heap.size ≤ k) W).setCell (p := ⟨w.heap.size + 1 + 1, 0, none⟩) (fun _ => .inl rfl) _) ⟨h1, ⟨_, m1⟩, h3.setCell (p := ⟨w.heap.size + 1 + 1, 0, none⟩) (fun h => absurd h (by show ¬ (w.heap.size + 1 + 1 < w.heap.size); omega)) _, by simpa [World.setCell] using h4⟩ ⟨rfl, m1⟩
    have HK1 := Lib.hid hk1
    clear hk1 hK h1 h2 h3 h4 m1
    gi_wp2
    exact HK1.out
  case body =>
    rintro y pre z a2 W hy hl ⟨rfl, _, h3, h4⟩ ⟨rfl, h2⟩ hlen
    obtain ⟨e0, e1, e2, e3, e4, e5⟩ := h2.cells
    obtain ⟨q0, q1, q2', q3', q4⟩ := HTA.out
    have j1 := q1.keep h3 (fun h => h) (fun h => h) (fun _ _ h => h)
    have j0 : ∀ k, F k → k < W.heap.size := fun k hk => Nat.lt_of_lt_of_le (q0 k hk) h3.size
    obtain ⟨cT, _⟩ := j1.cells
    have hz := z.2.1
    have cG := j1.role hz
    have fG := j1.hr.frozen z.val
    obtain ⟨xn, hxn⟩ : ∃ n : Nat, x = (n : Int) := ⟨x.toNat, by omega⟩
    have fd := (Fr.refl No W).drew
    have R := Ta.set_ (w := W.drew) j0 (j1.keep fd (fun h => h) (fun h => h) (fun _ _ h => h)) q2' q3' q4 z.val xn
    have hgB : ∀ k, w.heap.size ≤ k → k < w.heap.size + 4 → ¬ F k := fun k hk _ hF => absurd (q0 k hF) (by omega)
    have h2d := (h2.keep fd (fun _ _ _ h => h)).keep R.2 hgB
    have r1 := R.2
    have r0 := R.1
    obtain ⟨W3, hW3⟩ : ∃ W3, W.drew.setCell ⟨g', z.val, none⟩ (.int .i64 (xn : Int)) = W3 := ⟨_, rfl⟩
    rw [hW3] at h2d r1 r0
    have h5 := (h2d.put2 (z.val : Int)).put3 0
    have f5 : Fr No W3 ((W3.setCell ⟨w.heap.size + 1 + 1, 0, none⟩ (.int .i64 ((z.val : Nat) : Int))).setCell ⟨w.heap.size + 1 + 1 + 1, 0, none⟩ (.int .i64 0)) → True := fun _ => trivial
    have f6 : Fr (fun k => w.heap.size ≤ k) W3 ((W3.setCell ⟨w.heap.size + 1 + 1, 0, none⟩ (.int .i64 ((z.val : Nat) : Int))).setCell ⟨w.heap.size + 1 + 1 + 1, 0, none⟩ (.int .i64 0)) := ((Fr.refl (fun k => w.heap.size ≤ k) W3).setCell (p := ⟨w.heap.size + 1 + 1, 0, none⟩) (fun _ => by show w.heap.size ≤ w.heap.size + 1 + 1; omega) _).setCell (p := ⟨w.heap.size + 1 + 1 + 1, 0, none⟩) (fun _ => by show w.heap.size ≤ w.heap.size + 1 + 1 + 1; omega) _
    have FIN : Hid (KeepsFrom w2.heap.size W ((W3.setCell ⟨w.heap.size + 1 + 1, 0, none⟩ (.int .i64 ((z.val : Nat) : Int))).setCell ⟨w.heap.size + 1 + 1 + 1, 0, none⟩ (.int .i64 0)) ∧ TkX w t F x b .ret ([] ++ [z]) ((W3.setCell ⟨w.heap.size + 1 + 1, 0, none⟩ (.int .i64 ((z.val : Nat) : Int))).setCell ⟨w.heap.size + 1 + 1 + 1, 0, none⟩ (.int .i64 0))) := Lib.hid ⟨(((((KeepsOthers.drew W).trans (by rw [← hW3]; exact KeepsOthers.setCell _ _ _)).trans (KeepsOthers.setCell _ _ _)).trans (KeepsOthers.setCell _ _ _))).from _, rfl, z, rfl, h5, by
      have : Ta ((W3.setCell ⟨w.heap.size + 1 + 1, 0, none⟩ (.int .i64 ((z.val : Nat) : Int))).setCell ⟨w.heap.size + 1 + 1 + 1, 0, none⟩ (.int .i64 0)) t F (setT b z.val xn) := r0.keep f6 (fun k hk h => absurd (q0 k hk) (by omega))
      rw [hxn, Int.toNat_natCast]
      exact this, (((h3.drew).sub (fun _ _ h => h.elim)).then_ r1 (fun _ _ h => h)).then_ f6 (fun k hk h => absurd hk (by omega))⟩
    obtain ⟨d0, d1, d2, d3, d4, d5⟩ := h2d.cells
    rw [← hxn] at hW3
    have HW3 := Lib.hid hW3
    have hzg : (z.val : Nat) < b.r.length := hz
    have nBg : w.heap.size ≠ g' := by omega
    have S3 : Hid (W3.cell? ⟨w.heap.size, 0, none⟩ = some (.pointer (some ⟨t, 0, none⟩)) ∧ W3.cell? ⟨t, 0, none⟩ = some (.slice (some ⟨g', 0, none⟩) b.r.length b.r.length) ∧ W3.cell? ⟨w.heap.size + 1 + 1, 0, none⟩ = some (.int .i64 ((z.val : Nat) : Int)) ∧ W3.cell? ⟨w.heap.size + 1, 0, none⟩ = some (.int .i64 x)) := Lib.hid ⟨d0, by
      rw [← hW3]
      exact ((Fr.refl (One g') W.drew).setCell (p := ⟨g', z.val, none⟩) (fun _ => (rfl : g' = g')) _).cell (p := ⟨t, 0, none⟩) cT hne, d2, d1⟩
    clear h2 h3 h4 q0 q1 q2' q3' q4 j1 j0 R r1 r0 h2d h5 f5 f6 hW3 hgB hlen hy hl fd hz
    obtain ⟨nr, hnr⟩ : ∃ n, b.r.length = n := ⟨_, rfl⟩
    obtain ⟨zv, hzv⟩ : ∃ n, z.val = n := ⟨_, rfl⟩
    obtain ⟨rv, hrv⟩ : ∃ n, ((b.r.getD z.val 0 : Nat) : Int) = n := ⟨_, rfl⟩
    rw [hrv] at cG
    have HD := Lib.hid (And.intro d2 (And.intro d3 (And.intro d4 d5)))
    rw [hzv] at cG fG e2 S3 HW3 hzg HD
    rw [hnr] at cT hzg S3
    have FIN := FIN.out
    rw [hzv] at FIN
    have FIN := Lib.hid FIN
    rw [hzv]
    clear hnr hrv d0 d1 d2 d3 d4 d5 hxn
    refine wpIn_block ?_
    refine wpIn_seq ?_
    refine wpIn_region_round (S := fun w' => w'.cell? ⟨w.heap.size, 0, none⟩ = some (.pointer (some ⟨t, 0, none⟩)) ∧ w'.cell? ⟨t, 0, none⟩ = some (.slice (some ⟨g', 0, none⟩) nr nr) ∧ w'.cell? ⟨w.heap.size + 1 + 1, 0, none⟩ = some (.int .i64 (zv : Int)) ∧ w'.cell? ⟨w.heap.size + 1, 0, none⟩ = some (.int .i64 x)) (by kernel_rfl) (by kernel_rfl) (fun ⟨_, _, h⟩ => h) ⟨e0, cT, e2, e1⟩ (fun hSx => ?_)
    refine take_drop (i := 0) (v := ?v0) rfl (by kernel_rfl) (by kernel_rfl) (by kernel_rfl) (fun _ _ _ h => h) (Or.inl ⟨by rfl, ?h0⟩) hSx ?r0
    case h0 => (intro wS hSw; obtain ⟨s1, s2, s3, s4⟩ := hSw; go_simp; all_goals (with_reducible rfl))
    simp only [Act.put, List.setIfInBounds_toArray, List.set_cons_zero, List.set_cons_succ]
    refine take_drop (i := 1) (v := ?v1) rfl (by kernel_rfl) (by kernel_rfl) (by kernel_rfl) (fun _ _ _ h => h) (Or.inl ⟨by rfl, ?h1⟩) hSx ?r1
    case h1 => (intro wS hSw; obtain ⟨s1, s2, s3, s4⟩ := hSw; go_simp; all_goals (with_reducible rfl))
    simp only [Act.put, List.setIfInBounds_toArray, List.set_cons_zero, List.set_cons_succ]
    refine take_drop (i := 2) (v := ?v2) rfl (by kernel_rfl) (by kernel_rfl) (by kernel_rfl) (fun _ _ _ h => h) (Or.inl ⟨by rfl, ?h2⟩) hSx ?r2
    case h2 => (intro wS hSw; obtain ⟨s1, s2, s3, s4⟩ := hSw; go_simp; all_goals (with_reducible rfl))
    simp only [Act.put, List.setIfInBounds_toArray, List.set_cons_zero, List.set_cons_succ]
    refine take_drop (i := 3) (v := ?v3) rfl (by kernel_rfl) (by kernel_rfl) (by kernel_rfl) (fun _ _ _ h => h) (Or.inl ⟨by rfl, ?h3⟩) hSx ?r3
    case h3 => (intro wS hSw; obtain ⟨s1, s2, s3, s4⟩ := hSw; go_simp; all_goals (with_reducible rfl))
    simp only [Act.put, List.setIfInBounds_toArray, List.set_cons_zero, List.set_cons_succ]
    refine take_drop (i := 4) (v := ?v4) rfl (by kernel_rfl) (by kernel_rfl) (by kernel_rfl) (fun _ _ _ h => h) (Or.inl ⟨by rfl, ?h4⟩) hSx ?r4
    case h4 => (intro wS hSw; obtain ⟨s1, s2, s3, s4⟩ := hSw; go_simp; all_goals (with_reducible rfl))
    simp only [Act.put, List.setIfInBounds_toArray, List.set_cons_zero, List.set_cons_succ]
    refine take_drop (i := 5) (v := ?v5) rfl (by kernel_rfl) (by kernel_rfl) (by kernel_rfl) (fun _ _ _ h => h) (Or.inl ⟨by rfl, ?h5⟩) hSx ?r5
    case h5 => (intro wS hSw; obtain ⟨s1, s2, s3, s4⟩ := hSw; go_simp; all_goals (with_reducible rfl))
    simp only [Act.put, List.setIfInBounds_toArray, List.set_cons_zero, List.set_cons_succ]
    refine take_drop (i := 6) (v := ?v6) rfl (by kernel_rfl) (by kernel_rfl) (by kernel_rfl) (fun _ _ _ h => h) (Or.inl ⟨by rfl, ?h6⟩) hSx ?r6
    case h6 => (intro wS hSw; obtain ⟨s1, s2, s3, s4⟩ := hSw; go_simp; all_goals (with_reducible rfl))
    simp only [Act.put, List.setIfInBounds_toArray, List.set_cons_zero, List.set_cons_succ]
    refine wpAnyH_ready (rs := [7]) (by kernel_rfl) (by simp) ?_
    refine do_drop (i := 7) rfl (fun K hK => ?_) AllReadyH.nil
    go_simp
    rw [show (W.setCell ⟨g', zv, none⟩ (.int .i64 x)).drew = W3 from HW3.out]
    refine hK.out _ _ S3.out ?_
    clear hK K
    try simp only [Act.put, List.setIfInBounds_toArray, List.set_cons_zero, List.set_cons_succ]
    refine wpAnyH_done (by kernel_rfl) ?_ _
    obtain ⟨d2, d3, d4, d5⟩ := HD.out
    have d3' : (W3.setCell ⟨w.heap.size + 1 + 1, 0, none⟩ (.int .i64 (zv : Int))).cell? ⟨w.heap.size + 1 + 1 + 1, 0, none⟩ = some (.int .i64 0) :=
      ((Fr.refl (One (w.heap.size + 1 + 1)) W3).setCell (p := ⟨w.heap.size + 1 + 1, 0, none⟩) (fun _ => (rfl : w.heap.size + 1 + 1 = w.heap.size + 1 + 1)) _).cell d3 (fun e => absurd (show w.heap.size + 1 + 1 + 1 = w.heap.size + 1 + 1 from e) (by omega))
    gi_wp2
    exact FIN.out
  case done =>
    rintro D ys W hD rfl ⟨h1, ⟨v, h2⟩, h3, h4⟩ hK
    have hnf := none_free h1
    have E1 : takE b x = 81 := by unfold takE; rw [okRole_iff.2 hx, decide_eq_false hnf]; rfl
    have E2 : takZ b x = 0 := by unfold takZ; rw [E1]; rfl
    have E3 : takT b x = b := by unfold takT; rw [E1]; rfl
    have HE := Lib.hid (And.intro E1 (And.intro E2 E3))
    obtain ⟨e0, e1, e2, e3, e4, e5⟩ := h2.cells
    have m1 := (h2.put2 0).put3 81
    have f6 : Fr (fun k => w.heap.size ≤ k) W ((W.setCell ⟨w.heap.size + 1 + 1, 0, none⟩ (.int .i64 0)).setCell ⟨w.heap.size + 1 + 1 + 1, 0, none⟩ (.int .i64 81)) := ((Fr.refl (fun k => w.heap.size ≤ k) W).setCell (p := ⟨w.heap.size + 1 + 1, 0, none⟩) (fun _ => by show w.heap.size ≤ w.heap.size + 1 + 1; omega) _).setCell (p := ⟨w.heap.size + 1 + 1 + 1, 0, none⟩) (fun _ => by show w.heap.size ≤ w.heap.size + 1 + 1 + 1; omega) _
    have f7 := (h3.sub (T := No) (fun _ _ h => h)).then_ f6 (fun k hk h => absurd hk (by omega))
    have hDW := (Array.getElem?_eq_some_iff.1 hK).1
    have hK2 : ((W.setCell ⟨w.heap.size + 1 + 1, 0, none⟩ (.int .i64 0)).setCell ⟨w.heap.size + 1 + 1 + 1, 0, none⟩ (.int .i64 81)).heap[D]? = some (.deferred (some [])) := ((KeepsOthers.setCell _ _ _).trans (KeepsOthers.setCell _ _ _)).same _ _ hK rfl
    have M1 := Lib.hid m1
    have F7 := Lib.hid f7
    have HK2 := Lib.hid hK2
    have hs4 := h4
    have hf1s := hf1.size
    clear m1 f6 f7 hK2 h1 h2 h3 h4 hnf E1 E2 E3
    go_wp2_with fail
    refine ⟨by simp, .inl ⟨_, _, rfl, run_takeDeferred HK2.out, ?_⟩⟩
    have hg := grownBy_putObj' ((W.setCell ⟨w.heap.size + 1 + 1, 0, none⟩ (.int .i64 0)).setCell ⟨w.heap.size + 1 + 1 + 1, 0, none⟩ (.int .i64 81)) D (.deferred none)
    have hr : Turns w2.heap.size ((W.setCell ⟨w.heap.size + 1 + 1, 0, none⟩ (.int .i64 0)).setCell ⟨w.heap.size + 1 + 1 + 1, 0, none⟩ (.int .i64 81)) (some D) := fun r e => by cases e; exact ⟨hD, _, HK2.out, rfl⟩
    have M2 := M1.out.own hg hr
    have F8 := own_fr hf1s F7.out hg hr
    exact ⟨_, results_two rfl Try.underlying3 Try.underlying34 _ _ _ _ _ _ rfl rfl (M2.b2.cell 0) (M2.b3.cell 0), by rw [HE.out.1, HE.out.2.1]; rfl, F, by rw [HE.out.2.2]; exact HT.out.keep F8 (fun _ _ h => h), fun k hk => .inl hk, F8.sub fun _ _ h => h.elim⟩
  case stop =>
    rintro D c pre W hD hpre ⟨rfl, z, rfl, h2, h3, h4⟩ hK
    obtain ⟨hzf, hlt⟩ := first_free hpre
    have E1 : takE b x = 0 := by unfold takE; rw [okRole_iff.2 hx, decide_eq_true hlt]; rfl
    have E2 : takZ b x = (z.val : Int) := by unfold takZ; rw [E1, if_pos rfl, hzf]
    have E3 : takT b x = setT b z.val x.toNat := by unfold takT; rw [E1, if_pos rfl, hzf]
    rw [E1, E2, E3]
    have hf1s := hf1.size
    clear E1 E2 E3
    gi_wp2
    refine ⟨by simp, .inl ⟨_, _, rfl, run_takeDeferred hK, ?_⟩⟩
    have hg := grownBy_putObj' W D (.deferred none)
    have hr : Turns w2.heap.size W (some D) := fun r e => by cases e; exact ⟨hD, _, hK, rfl⟩
    have M2 := h2.own hg hr
    exact ⟨_, results_two rfl Try.underlying3 Try.underlying34 _ _ _ _ _ _ rfl rfl (M2.b2.cell 0) (M2.b3.cell 0), rfl, F, own_ta h3 hg hr, fun k hk => .inl hk, own_frF hf1s h4 hg hr⟩
end
end Go.Proofs.Ytmkadpjacidlkaa
