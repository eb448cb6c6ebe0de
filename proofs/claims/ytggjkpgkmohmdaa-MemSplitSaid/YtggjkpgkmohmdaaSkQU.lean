/-
  Layer 11, lists of texts whose values have no cell: has, newTower, New, Put; ceil, tell, Ceil, Len; Keys.
-/
import Derived.Test.YtggjkpgkmohmdaaSkPU
import Derived.Deep.WholeRow
import Derived.OwnWalk
import Derived.LaidEqlPtr
import Derived.Test.YtggjkpgkmohmdaaMemG
namespace Go.Proofs.Ytggjkpgkmohmdaa.KU
set_option linter.unusedVariables false
open Go.RowKit

theorem infoPN : (Try.prog.info? 87).map (fun i => (i.zero, i.size, i.bytes)) = some (some (.pointer none), 1, 8) := by kernel_rfl
theorem make_ptrs (w : World) (n : Nat) (h : n ≤ 12) :
    (Instr.makeSlice 90 (.int .i64 (n : Int)) (.int .i64 (n : Int))).run Try.prog w = .ok (.slice (some ⟨w.heap.size, 0, none⟩) n n) (w.alloc (.cells (madeCells #[.pointer none] n) 87)) := by
  obtain ⟨i0, hi, hz0, hz1, hz2⟩ := info_parts infoPN
  have hr := run_make (P := Try.prog) w 90 87 i0 (.pointer none) Try.underlying90 hi hz0 .i64 .i64 n n (by omega) (by omega) (by rw [hz2]; omega) (by omega)
  rw [hz1] at hr
  simp only [Int.toNat_natCast, Nat.mul_one] at hr
  exact hr
def hasN (o : Option N2) (k : ByteArray) : Bool := match o with
  | none => false
  | some y => decide (y.k = k)
theorem hasN_some {o : Option N2} {k : ByteArray} (h : hasN o k = true) : ∃ y, o = some y ∧ y.k = k := by
  cases o with
  | none => cases h
  | some y => exact ⟨y, rfl, of_decide_eq_true h⟩
theorem hasN_not {o : Option N2} {k : ByteArray} (h : hasN o k = false) : ∀ y, o = some y → y.k ≠ k := fun y hy => by
  subst hy
  exact of_decide_eq_false h
set_option maxRecDepth 20000 in
set_option maxHeartbeats 1000000 in
theorem has_c {w : World} {b hb hs : Nat} {ns : List N2} (H : SkL w b hb hs ns) (o : Option N2) (ho : ∀ y, o = some y → y ∈ ns) (k : ByteArray) (u : Option Addr) (hu : ptrN o = .pointer u) :
    Calls Try.prog 50 #[.pointer u, Value.string k] w fun e w' => e = .returned (.bool (hasN o k)) ∧ w = w' := by
  cases o with
  | none =>
    obtain rfl : none = u := by injection hu
    go_enter Try.func50, Try.ntmps50
    go_wp2_with fail
    go_ret
    exact ⟨rfl, rfl⟩
  | some y =>
    obtain rfl : some ⟨y.b, 0, none⟩ = u := by injection hu
    have q4 := (H.nod y (ho y rfl)).1.cell 0
    simp at q4
    clear H ho hu
    by_cases hk : y.k = k
    · have d1 : ((y.k).toList == (k).toList) = true := by rw [hk]; exact beq_self_eq_true _
      have HD : Hid (hasN (some y) k = true) := Lib.hid (decide_eq_true hk)
      clear hk
      go_enter Try.func50, Try.ntmps50
      go_wp2_with fail
      go_ret
      exact ⟨by rw [HD.out]; rfl, rfl⟩
    · have d1 : ((y.k).toList == (k).toList) = false := (beqS _ _).trans (decide_eq_false hk)
      have HD : Hid (hasN (some y) k = false) := Lib.hid (decide_eq_false hk)
      clear hk
      go_enter Try.func50, Try.ntmps50
      go_wp2_with fail
      go_ret
      exact ⟨by rw [HD.out]; rfl, rfl⟩
/-- What newTower makes. -/
structure TowerRet (h : Nat) (w : World) (e : Ending) (w' : World) : Prop where
  ex : ∃ b s, e = .returned (.pointer (some ⟨b, 0, none⟩)) ∧ w.heap.size ≤ b ∧ w.heap.size ≤ s ∧ b ≠ s ∧ At w' b 92 #[(Value.string ⟨#[]⟩), .slice (some ⟨s, 0, none⟩) h h] ∧ At w' s 87 (madeCells #[.pointer none] h)
  fr : Fr No w w'
set_option maxRecDepth 20000 in
set_option maxHeartbeats 1000000 in
theorem newTower_c (h : Nat) (hh : h ≤ 12) (w : World) : Calls Try.prog 46 #[.int .i64 (h : Int)] w (TowerRet h w) := by
  have hmk := make_ptrs w h hh
  have a1 := At.new w 87 (madeCells #[.pointer none] h)
  have g1 := (Fr.refl No w).alloc (.cells (madeCells #[.pointer none] h) 87)
  have z1 : (w.alloc (.cells (madeCells #[.pointer none] h) 87)).heap.size = w.heap.size + 1 := by simp
  obtain ⟨W1, hW1⟩ : ∃ W1, w.alloc (.cells (madeCells #[.pointer none] h) 87) = W1 := ⟨_, rfl⟩
  rw [hW1] at hmk a1 g1 z1
  have HA1 := Lib.hid a1
  have HG1 := Lib.hid g1
  have HZ1 := Lib.hid z1
  clear hW1 a1 g1 z1
  go_enter Try.func46, Try.ntmps46
  go_wp2_with fail
  go_ret
  refine ⟨⟨W1.heap.size, w.heap.size, rfl, by rw [HZ1.out]; omega, Nat.le_refl _, by rw [HZ1.out]; omega, At.new W1 _ _, HA1.out.keep ((Fr.refl No W1).alloc _) (fun h => h)⟩, HG1.out.alloc _⟩
theorem madePtrs (ns : List N2) (n : N2) : madeCells #[.pointer none] n.h = ownJ ltS ns n 0 := by
  rw [ownJ_zero]
  apply Array.ext
  · simp [size_madeCells]
  · intro i h1 h2
    have h3 : i < n.h := by simpa [size_madeCells] using h1
    simp [madeCells, Nat.mod_one]
theorem madeNone (f : Nat → Option N2) (n : Nat) (hf : ∀ i, f i = none) : madeCells #[.pointer none] n = lnk f n := by
  apply Array.ext
  · simp [size_madeCells, lnk]
  · intro i h1 h2
    have h3 : i < n := by simpa [size_madeCells] using h1
    simp [madeCells, Nat.mod_one, lnk, hf, ptrN]
/-- An empty list. -/
structure NewRet (w : World) (e : Ending) (w' : World) : Prop where
  ex : ∃ b hb hs, e = .returned (.pointer (some ⟨b, 0, none⟩)) ∧ SkL w' b hb hs [] ∧ ∀ z, SkOn b hb hs ([] : List N2) z → w.heap.size ≤ z
  fr : Fr No w w'
set_option maxRecDepth 20000 in
set_option maxHeartbeats 1000000 in
theorem new_c (w : World) : Calls Try.prog 33 #[] w (NewRet w) := by
  have HC := Lib.hid (newTower_c 12 (Nat.le_refl _) w)
  go_enter Try.func33, Try.ntmps33
  go_wp2_with fail
  refine HC.out.mono ?_
  rintro e w1 ⟨⟨b, s, rfl, hb, hs, hne, a1, a2⟩, f1⟩
  have HA1 := Lib.hid a1
  have HA2 := Lib.hid a2
  have HF1 := Lib.hid f1
  clear a1 a2 f1
  go_wp2_with fail
  go_ret
  have g2 := (Fr.refl No w1).alloc (.cells #[.pointer (some ⟨b, 0, none⟩), .int .i64 0] 89)
  refine ⟨⟨w1.heap.size, b, s, rfl, ⟨At.new w1 _ _, HA1.out.keep g2 (fun h => h), ?_, fun x hx => (by cases hx), fun x hx => (by cases hx), List.Pairwise.nil, fun x hx => (by cases hx), fun x hx => (by cases hx)⟩, ?_⟩, HF1.out.alloc _⟩
  · rw [← madeNone (fun i => nxt ltS ([] : List N2) i none) 12 (fun i => rfl)]
    exact HA2.out.keep g2 (fun h => h)
  · rintro z (rfl | rfl | rfl | ⟨x, hx, _⟩)
    · exact HF1.out.size
    · exact hb
    · exact hs
    · cases hx
/-- WHAT PUT TELLS AND DOES. -/
def PutS (ns : List N2) (k : ByteArray) (v : Unit) (h : Int) (e : Ending) (ns' : List N2) : Prop :=
  ((h < 1 ∨ 12 < h) ∧ e = .returned (.tuple #[.bool false, .int .i64 70]) ∧ ns' = ns) ∨
  (¬ (h < 1 ∨ 12 < h) ∧ (∀ x ∈ ns, x.k ≠ k) ∧ ∃ nd : N2, nd.k = k ∧ nd.v = v ∧ (nd.h : Int) = h ∧ e = .returned (.tuple #[.bool true, .int .i64 0]) ∧ ns' = insN ltS nd ns)
structure PutRet (b hb hs : Nat) (ns : List N2) (k : ByteArray) (v : Unit) (h : Int) (w : World) (e : Ending) (w' : World) : Prop where
  ex : ∃ ns', SkL w' b hb hs ns' ∧ (∀ z, SkOn b hb hs ns' z → SkOn b hb hs ns z ∨ w.heap.size ≤ z) ∧ PutS ns k v h e ns'
  fr : Fr (SkOn b hb hs ns) w w'
/-- While the new node is put in: below level j it stands in its place. -/
structure PutJ (b hb hs : Nat) (ns : List N2) (nd : N2) (w : World) (pb : Nat) (PC : Array Value) (j : Nat) (wr : World) : Prop where
  sk : SkM ltS Value.string noV (Value.string ⟨#[]⟩) (Value.agg #[]) 89 92 87 (nxtJ ltS ns nd j) (ns.length : Int) wr b hb hs ns
  ob : At wr nd.b 92 #[Value.string nd.k, .slice (some ⟨nd.s, 0, none⟩) nd.h nd.h]
  os : At wr nd.s 87 (ownJ ltS ns nd j)
  pa : At wr pb 101 PC
  fr : Fr (SkOn b hb hs ns) w wr
theorem PutJ.step {b hb hs : Nat} {ns : List N2} {nd : N2} {w : World} {pb : Nat} {PC : Array Value} {j : Nat} {wr : World} (h : PutJ b hb hs ns nd w pb PC j wr) (hk : ∀ x ∈ ns, x.k ≠ nd.k) {p : Option N2} (he : EndsAt ltS ns nd.k j p) (hj : j < nd.h)
    (fresh : ∀ z, SkOn b hb hs ns z → z ≠ nd.b ∧ z ≠ nd.s) (hn : w.heap.size ≤ nd.s) {u1 : Value} (e1 : ptrN (nxt ltS ns j (p.map (·.k))) = u1) {sj : Nat} (e2 : slotN hs p = sj) :
    PutJ b hb hs ns nd w pb PC (j + 1) ((wr.setCell ⟨nd.s, j, none⟩ u1).setCell ⟨sj, j, none⟩ (.pointer (some ⟨nd.b, 0, none⟩))).drew := by
  subst e1 e2
  have on : SkOn b hb hs ns (slotN hs p) := by
    cases p with
    | none => exact .inr (.inr (.inl rfl))
    | some x => exact .inr (.inr (.inr ⟨x, (he.places x rfl).1, .inr rfl⟩))
  have tp : ∃ cs, At wr (slotN hs p) 87 cs := by
    cases p with
    | none => exact ⟨_, h.sk.hnx⟩
    | some x => exact ⟨_, (h.sk.nod x (he.places x rfl).1).2⟩
  obtain ⟨cs, tp⟩ := tp
  have f1 : Fr (One nd.s) wr (wr.setCell ⟨nd.s, j, none⟩ (ptrN (nxt ltS ns j (p.map (·.k))))) := Fr.setCell (Fr.refl (One nd.s) wr) (p := ⟨nd.s, j, none⟩) (fun _ => show One nd.s nd.s from rfl) _
  have f2 : Fr (One (slotN hs p)) (wr.setCell ⟨nd.s, j, none⟩ (ptrN (nxt ltS ns j (p.map (·.k))))) ((wr.setCell ⟨nd.s, j, none⟩ (ptrN (nxt ltS ns j (p.map (·.k))))).setCell ⟨slotN hs p, j, none⟩ (.pointer (some ⟨nd.b, 0, none⟩))).drew := (Fr.setCell (Fr.refl (One (slotN hs p)) _) (p := ⟨slotN hs p, j, none⟩) (fun _ => show One (slotN hs p) (slotN hs p) from rfl) _).drew
  have d : ∀ W : World, Fr No W W.drew := fun W => (Fr.refl No W).drew
  refine ⟨?_, ?_, ?_, ?_, ?_⟩
  · have := (h.sk.keep f1 (fun z hz e => (fresh z hz).2 e)).level ordS (by decide) (by decide) nd hk j hj p he
    exact this.keep (d _) (fun _ _ h => h)
  · refine (h.ob.keep f1 (fun e => ?_)).keep f2 (fun e => (fresh _ on).1 (show nd.b = slotN hs p from e).symm)
    exact absurd (At.ty h.ob (by rw [show nd.b = nd.s from e]; exact h.os)) (by decide)
  · have := h.os.set_ j (ptrN (nxt ltS ns j (p.map (·.k))))
    rw [ownJ_set ordS h.sk.srt nd hk j he] at this
    exact this.keep f2 (fun e => (fresh _ on).2 (show nd.s = slotN hs p from e).symm)
  · refine (h.pa.keep f1 (fun e => ?_)).keep f2 (fun e => ?_)
    · exact absurd (At.ty h.pa (by rw [show pb = nd.s from e]; exact h.os)) (by decide)
    · exact absurd (At.ty h.pa (by rw [show pb = slotN hs p from e]; exact tp)) (by decide)
  · refine (h.fr.then_ f1 (fun x hx e => absurd hn (by have e : x = nd.s := e; omega))).then_ f2 (fun x hx e => ?_)
    rw [show x = slotN hs p from e]
    exact on
theorem PutJ.end_ {b hb hs : Nat} {ns : List N2} {nd : N2} {w : World} {pb : Nat} {PC : Array Value} {wr : World} (h : PutJ b hb hs ns nd w pb PC nd.h wr) (hk : ∀ x ∈ ns, x.k ≠ nd.k) (hh : 1 ≤ nd.h ∧ nd.h ≤ 12)
    (fresh : ∀ z, SkOn b hb hs ns z → z ≠ nd.b ∧ z ≠ nd.s) (hn : w.heap.size ≤ nd.s ∧ w.heap.size ≤ nd.b) {e : Ending} (he : e = .returned (.tuple #[.bool true, .int .i64 0])) : PutRet b hb hs ns nd.k nd.v (nd.h : Int) w e (wr.setCell ⟨b, 1, none⟩ (.int .i64 ((ns.length : Int) + 1))) := by
  refine ⟨⟨insN ltS nd ns, ?_, ?_, .inr ⟨by omega, hk, nd, rfl, rfl, rfl, he, rfl⟩⟩, h.fr.setCell (p := ⟨b, 1, none⟩) (fun _ => .inl rfl) _⟩
  · have := (h.sk.done ordS nd hk h.ob h.os hh fresh).count (by decide) (by decide) ((ns.length : Int) + 1)
    show SkM _ _ _ _ _ _ _ _ _ _ _ _ _ _ _
    rw [insN_length]
    exact this
  · rintro z (e | e | e | ⟨x, hx, e⟩)
    · exact .inl (.inl e)
    · exact .inl (.inr (.inl e))
    · exact .inl (.inr (.inr (.inl e)))
    · rcases (insN_mem nd ns x).1 hx with ex | hx'
      · rw [ex] at e
        right
        rcases e with e | e
        · rw [e]; exact hn.2
        · rw [e]; exact hn.1
      · exact .inl (.inr (.inr (.inr ⟨x, hx', e⟩)))
theorem byteC0 : byteOfCell Try.prog Try.prog.depth 92 0 = some 0 := by kernel_rfl
theorem byteC1 : byteOfCell Try.prog Try.prog.depth 92 1 = some 16 := by kernel_rfl
theorem cellsN : Try.prog.cellsOf 92 = 2 := by kernel_rfl
theorem part_val {w : World} {b : Nat} {cs : Array Value} (h : At w b 92 cs) :
    (partAt ⟨b, 0, none⟩ 1 16).run Try.prog w = .ok ⟨b, 1, none⟩ w := by
  unfold At at h
  have hs : w.shape? b = some (92, cs.size) := by simp [World.shape?, h]
  unfold partAt
  simp [Go.byteOf, noView, viewAt, Go.shape, program, Sem.run, hs, Result.andThen, byteC0, byteC1, cellsN]
set_option maxRecDepth 20000 in
set_option maxHeartbeats 4000000 in
theorem put_c (b hb hs : Nat) (ns : List N2) (k : ByteArray) (v : Unit) (h : Int) (w : World) (H : SkL w b hb hs ns) (hl : ns.length ≤ 1000000) (HN : ∀ x ∈ ns, x.k ≠ k) :
    Calls Try.prog 47 #[.pointer (some ⟨b, 0, none⟩), Value.string k, .agg #[], .int .i64 h] w (PutRet b hb hs ns k v h w) := by
  have HL := Lib.hid H
  have HKN := Lib.hid HN
  have g0 := (Fr.refl No w).alloc (.cells #[] 74)
  have A0 := At.new w 74 #[]
  obtain ⟨W0, hW0⟩ : ∃ W0, w.alloc (.cells #[] 74) = W0 := ⟨_, rfl⟩
  rw [hW0] at g0 A0
  have HC := Lib.hid (below_c b hb hs ns k W0 (H.keep g0 (fun _ _ h => h)))
  have HF0 := Lib.hid g0
  have HA0 := Lib.hid A0
  clear H HN g0 A0
  go_enter Try.func47, Try.ntmps47
  by_cases r1 : h < 1
  · have d1 : decide (h < 1) = true := decide_eq_true r1
    go_wp2_with fail
    go_ret2
    exact ⟨⟨ns, HL.out.keep HF0.out (fun _ _ h => h), fun z hz => .inl hz, .inl ⟨.inl r1, rfl, rfl⟩⟩, HF0.out.sub (fun _ _ h => absurd h (fun h => h))⟩
  have d1 : decide (h < 1) = false := decide_eq_false r1
  by_cases r2 : 12 < h
  · have d2 : decide (12 < h) = true := decide_eq_true r2
    go_wp2_with fail
    go_ret2
    exact ⟨⟨ns, HL.out.keep HF0.out (fun _ _ h => h), fun z hz => .inl hz, .inl ⟨.inr r2, rfl, rfl⟩⟩, HF0.out.sub (fun _ _ h => absurd h (fun h => h))⟩
  have d2 : decide (12 < h) = false := decide_eq_false r2
  go_wp2_with fail
  refine HC.out.mono ?_
  rintro e w1 ⟨pt, hpt, rfl, f1⟩
  have A1 := HA0.out.keep f1 (fun h => h)
  replace f1 := HF0.out.trans f1
  clear hW0
  have HPT := Lib.hid hpt
  have HF1 := Lib.hid f1
  have HL1 := Lib.hid (HL.out.keep f1 (fun _ _ h => h))
  clear hpt f1
  obtain ⟨PC, hPC⟩ : ∃ PC, pathC hb pt 0 = PC := ⟨_, rfl⟩
  have hz : PC.size = 12 := by rw [← hPC]; simp [pathC]
  have hst := run_storeCells_new (P := Try.prog) w1 101 #[.pointer none, .pointer none, .pointer none, .pointer none, .pointer none, .pointer none, .pointer none, .pointer none, .pointer none, .pointer none, .pointer none, .pointer none] PC (by rw [hz]; exact sizePath) (by rw [hz]; rfl) (by
    rw [← hPC, pathC_zero]
    simp [Value.oneCell'])
  have A2 := At.new w1 101 PC
  have f2 := (Fr.refl No w1).alloc (.cells PC 101)
  obtain ⟨W2, hW2⟩ : ∃ W2, w1.alloc (.cells PC 101) = W2 := ⟨_, rfl⟩
  rw [hW2] at hst A2 f2
  have HA2b := Lib.hid (A1.keep f2 (fun h => h))
  clear A1
  have HL2 := Lib.hid (HL1.out.keep f2 (fun _ _ h => h))
  have HF2 := Lib.hid (HF1.out.trans f2)
  have pc : ∀ i, i < 12 → W2.cell? ⟨w1.heap.size, i, none⟩ = some (.pointer (some ⟨spotN hb (pt i), 0, none⟩)) := fun i hi => by
    rw [A2.cell, ← hPC, pathC_zero]
    simp [hi]
  have HPC := Lib.hid pc
  have HA2 := Lib.hid A2
  rw [hPC]
  have p0 := pc 0 (by omega)
  obtain ⟨n0, q0, q1, _, q3, _⟩ := HL2.out.place (pt 0) 0 (by omega) (HPT.out 0 (by omega)).places
  obtain ⟨s0, hs0⟩ : ∃ s, slotN hs (pt 0) = s := ⟨_, rfl⟩
  rw [hs0] at q0 q3
  have q4 : 0 < n0 := q1
  obtain ⟨o0, ho0⟩ : ∃ o, nxt ltS ns 0 ((pt 0).map (·.k)) = o := ⟨_, rfl⟩
  obtain ⟨u0, hu0⟩ : ∃ u, ptrN o0 = .pointer u := by
    cases o0 with
    | none => exact ⟨_, rfl⟩
    | some z => exact ⟨_, rfl⟩
  rw [ho0, hu0] at q3
  have HO0 := Lib.hid ho0
  have hm : ∀ y, o0 = some y → y ∈ ns := fun y hy => (nxt_some (ho0.trans hy)).1
  have HM := Lib.hid hm
  have HU0 := Lib.hid hu0
  have HH := Lib.hid (has_c HL2.out o0 hm k u0 hu0)
  clear hPC pc A2 f2 hW2 hs0 q1 ho0 hu0 hm
  go_wp2_with fail
  refine HH.out.mono ?_
  rintro e w2 ⟨rfl, rfl⟩
  cases hN : hasN o0 k with
  | true =>
    have HY := Lib.hid (hasN_some hN)
    obtain ⟨y, hy, hyk⟩ := HY.out
    exact absurd hyk (HKN.out y (HM.out y hy))
  | false =>
    have HK : Hid (∀ x ∈ ns, x.k ≠ k) := Lib.hid ((HPT.out 0 (by omega)).absent ordS HL2.out.srt (fun x hx => (HL2.out.hts x hx).1) fun z hz => hasN_not hN z (HO0.out.symm.trans hz))
    clear hN
    obtain ⟨m, rfl⟩ : ∃ m : Nat, h = (m : Int) := ⟨h.toNat, by omega⟩
    have HT := Lib.hid (newTower_c m (by omega) W2)
    go_wp2_with fail
    refine HT.out.mono ?_
    rintro e W3 ⟨⟨nb, nsl, rfl, gb, gs, gne, a1, a2⟩, f3⟩
    have b3 := a1.cell 0
    have b4 := a1.cell 1
    have b6 := a1.frozen 0
    have b7 := a1.frozen 1
    simp at b3 b4
    obtain ⟨nd, hnd⟩ : ∃ nd : N2, nd = ⟨nb, nsl, k, v, m⟩ := ⟨_, rfl⟩
    have hnb : nb = nd.b := by rw [hnd]
    have hns : nsl = nd.s := by rw [hnd]
    have hnh : nd.h = m := by rw [hnd]
    have hnk : nd.k = k := by rw [hnd]
    have hnv : nd.v = v := by rw [hnd]
    rw [hnb] at b3 b4 b6 b7 gb gne a1
    rw [hns] at a1 a2 gs gne
    rw [hnb]
    rw [show madeCells #[.pointer none] m = ownJ ltS ns nd 0 by rw [← madePtrs, hnd]] at a2
    have START : Hid (∀ W4, (W3.setCell ⟨nd.b, 0, none⟩ (Value.string k)).drew = W4 → PutJ b hb hs ns nd w w1.heap.size PC 0 W4) := Lib.hid fun W4 e => by
      have g4 : Fr (One nd.b) W3 W4 := by
        rw [← e]
        exact ((Fr.refl (One nd.b) W3).setCell (p := ⟨nd.b, 0, none⟩) (fun _ => rfl) _).drew
      have nob : ∀ z, SkOn b hb hs ns z → ¬ One nd.b z := fun z hz (e : z = nd.b) => absurd (HL2.out.lt_size z hz) (by rw [e]; omega)
      refine ⟨((HL2.out.keep f3 (fun _ _ h => h)).keep g4 nob).start nd, ?_, a2.keep g4 (fun e : nd.s = nd.b => gne e.symm), (HA2.out.keep f3 (fun h => h)).keep g4 (fun e : w1.heap.size = nd.b => absurd HA2.out.lt (by omega)), ?_⟩
      · rw [hnk, hnh, ← e]
        have := (a1.set_ 0 (Value.string k)).keep ((Fr.refl No _).drew) (fun h => h)
        simpa using this
      · exact ((HF2.out.trans f3).sub (fun _ _ h => absurd h (fun h => h))).then_ g4 (fun x hx (e : x = nd.b) => absurd HF2.out.size (by omega))
    have A3 := HA2b.out.keep f3 (fun h => h)
    have hpart := part_val ((a1.set_ 0 (Value.string k)).keep ((Fr.refl No _).drew) (fun h => h))
    have fresh : ∀ z, SkOn b hb hs ns z → z ≠ nd.b ∧ z ≠ nd.s := fun z hz => by
      have := HL2.out.lt_size z hz
      omega
    have HFR := Lib.hid fresh
    have pne : w1.heap.size ≠ nd.s := by
      have := HA2.out.lt
      omega
    have bne : nd.b ≠ nd.s := gne
    have HNB := Lib.hid (show W2.heap.size ≤ nd.b ∧ W2.heap.size ≤ nd.s from ⟨gb, gs⟩)
    have HNH := Lib.hid hnh
    have HNK := Lib.hid hnk
    have HNV := Lib.hid hnv
    clear a1 a2 f3 hnd hns hnb fresh hnh hnk hnv gb gs
    clear q0 q3 q4 p0 hst
    go_wp2_with fail
    go_region
    go_wp2_with fail
    go_loopw [48] (fun i wr => ∃ j : Nat, i = .int .i64 (j : Int) ∧ j ≤ m ∧ PutJ b hb hs ns nd w w1.heap.size PC j wr) (fun i _ => m - (intOf i).toNat)
    case atStart => exact ⟨0, rfl, by omega, START.out _ rfl⟩
    case round =>
      obtain ⟨j, rfl, hj, hPJ⟩ := hrel
      by_cases hjm : j = m
      · subst hjm
        have d9 : decide ((j : Int) < (j : Int)) = false := by simp
        have l0 := hPJ.sk.lst.cell 1
        have l1 := hPJ.sk.lst.frozen 1
        simp at l0
        have HPJ := Lib.hid hPJ
        clear hPJ
        go_wp2_with fail
        go_ret2
        have := (show PutJ b hb hs ns nd w w1.heap.size PC nd.h wr by rw [HNH.out]; exact HPJ.out).end_ (fun x hx => by rw [HNK.out]; exact HK.out x hx) (by rw [HNH.out]; omega) HFR.out (by have := HNB.out; have := HF2.out.size; omega) rfl
        rw [HNK.out, HNH.out] at this
        exact this
      · have d9 : decide ((j : Int) < (m : Int)) = true := by rw [decide_eq_true_eq]; omega
        have hj12 : j < 12 := by omega
        have pj : wr.cell? ⟨w1.heap.size, j, none⟩ = some (.pointer (some ⟨spotN hb (pt j), 0, none⟩)) := by
          rw [hPJ.pa.cell, ← HA2.out.cell]
          exact HPC.out j hj12
        obtain ⟨nj, r0, r1, _, r3, r4⟩ := hPJ.sk.place (pt j) j hj12 (HPT.out j hj12).places
        have o0 := hPJ.ob.cell 1
        rw [HNH.out] at o0
        simp at o0
        have o1 : wr.cell? ⟨nd.s, j, none⟩ = some (.pointer none) := by
          rw [hPJ.os.cell]
          unfold ownJ
          rw [lnk_at _ nd.h j (by rw [HNH.out]; omega), if_neg (Nat.lt_irrefl j)]
          rfl
        have o2 := hPJ.os.frozen j
        have sp := (HFR.out (spotN hb (pt j)) (by
          cases ep : pt j with
          | none => exact .inr (.inl rfl)
          | some x => exact .inr (.inr (.inr ⟨x, ((HPT.out j hj12).places x ep).1, .inl rfl⟩)))).2
        have sl := (HFR.out (slotN hs (pt j)) (by
          cases ep : pt j with
          | none => exact .inr (.inr (.inl rfl))
          | some x => exact .inr (.inr (.inr ⟨x, ((HPT.out j hj12).places x ep).1, .inr rfl⟩)))).2
        have HPJ := Lib.hid hPJ
        obtain ⟨sj, hsj⟩ : ∃ s, slotN hs (pt j) = s := ⟨_, rfl⟩
        obtain ⟨bj, hbj⟩ : ∃ s, spotN hb (pt j) = s := ⟨_, rfl⟩
        rw [hsj] at r0 r3 r4 sl
        rw [hbj] at r0 pj sp
        rw [show nxtJ ltS ns nd j j ((pt j).map (·.k)) = nxt ltS ns j ((pt j).map (·.k)) by unfold nxtJ; rw [if_neg (Nat.lt_irrefl j)]] at r3
        obtain ⟨vj, hvj⟩ : ∃ u, ptrN (nxt ltS ns j ((pt j).map (·.k))) = .pointer u := by
          cases nxt ltS ns j ((pt j).map (·.k)) with
          | none => exact ⟨_, rfl⟩
          | some z => exact ⟨_, rfl⟩
        rw [hvj] at r3
        have HSJ := Lib.hid hsj
        have HVJ := Lib.hid hvj
        clear hPJ hsj hbj hvj
        go_wp2_with fail
        go_region
        go_wp2_with fail
        go_roundw
        case rel => exact ⟨j + 1, rfl, by omega, HPJ.out.step (fun x hx => by rw [HNK.out]; exact HK.out x hx) (p := pt j) (by rw [HNK.out]; exact HPT.out j hj12) (by rw [HNH.out]; omega) HFR.out (by have := HNB.out; have := HF2.out.size; omega) HVJ.out HSJ.out⟩
        case measure =>
          show m - ((j : Int) + 1).toNat < m - ((j : Int)).toNat
          omega
end Go.Proofs.Ytggjkpgkmohmdaa.KU
namespace Go.Proofs.Ytggjkpgkmohmdaa.KU
set_option linter.unusedVariables false
open Go.RowKit

/-- What is told of a node. -/
def tellV (o : Option N2) : Value := match o with
  | none => .tuple #[(Value.string ⟨#[]⟩), (Value.agg #[]), .bool false]
  | some y => .tuple #[Value.string y.k, noV y.v, .bool true]
def getR (o : Option N2) : Value := match o with
  | none => .tuple #[(Value.agg #[]), .bool false]
  | some y => .tuple #[noV y.v, .bool true]
def heightR (o : Option N2) : Value := match o with
  | none => .int .i64 0
  | some y => .int .i64 (y.h : Int)
theorem ptr_letter (o : Option N2) : ∃ u, ptrN o = .pointer u := by
  cases o with
  | none => exact ⟨_, rfl⟩
  | some z => exact ⟨_, rfl⟩
theorem absent_of {ns : List N2} (hs : Sorted ltS ns) {k : ByteArray} {o : Option N2} (h : ceilN ltS ns k = o) (hN : hasN o k = false) : ∀ x ∈ ns, x.k ≠ k := by
  cases o with
  | none => exact ceil_none ordS h
  | some y => exact ceil_some ordS hs h (hasN_not hN y rfl)
theorem index0 (w : World) (PC : Array Value) (v : Value) (hz : PC[0]? = some v) : (Instr.index 101 (.agg PC) (.int .i64 0)).run Try.prog w = .ok v w := by
  obtain ⟨i0, hi, hz0, hz1, hz2⟩ := info_parts infoPN
  have hu : Try.prog.underlying 87 = some (.pointer 92) := by kernel_rfl
  simp [Instr.index, asIntOf, run_underlying Try.underlying101, run_underlying hu, Result.andThen, sizeOf, typeInfo, hi, part, isAgg, hz]
set_option maxRecDepth 20000 in
set_option maxHeartbeats 2000000 in
theorem ceil_c (b hb hs : Nat) (ns : List N2) (k : ByteArray) (w : World) (H : SkL w b hb hs ns) :
    Calls Try.prog 45 #[.pointer (some ⟨b, 0, none⟩), Value.string k] w fun e w' => e = .returned (ptrN (ceilN ltS ns k)) ∧ Fr No w w' := by
  have HL := Lib.hid H
  have HC := Lib.hid (below_c b hb hs ns k w H)
  clear H
  go_enter Try.func45, Try.ntmps45
  go_wp2_with fail
  refine HC.out.mono ?_
  rintro e w1 ⟨pt, hpt, rfl, f1⟩
  have HF1 := Lib.hid f1
  obtain ⟨n0, q0, q1, _, q3, _⟩ := (HL.out.keep f1 (fun _ _ h => h)).place (pt 0) 0 (by omega) (hpt 0 (by omega)).places
  have q4 : 0 < n0 := q1
  have HE : Hid (nxt ltS ns 0 ((pt 0).map (·.k)) = ceilN ltS ns k) := Lib.hid ((hpt 0 (by omega)).ceil ordS HL.out.srt (fun x hx => (HL.out.hts x hx).1))
  rw [HE.out] at q3
  obtain ⟨PC, hPC⟩ : ∃ PC, pathC hb pt 0 = PC := ⟨_, rfl⟩
  have hz : PC[0]? = some (.pointer (some ⟨spotN hb (pt 0), 0, none⟩)) := by rw [← hPC, pathC_zero]; simp
  have hsz : PC.size = 12 := by rw [← hPC]; simp [pathC]
  obtain ⟨vj, hvj⟩ := ptr_letter (ceilN ltS ns k)
  rw [hvj] at q3
  have HVJ := Lib.hid hvj
  have hix := index0 w1 PC _ hz
  rw [hPC]
  clear hpt hPC q1 f1 HE hvj
  go_wp2_with fail
  go_ret
  exact ⟨by rw [HVJ.out]; rfl, HF1.out⟩
theorem sizeT : ∃ j, Try.prog.info? 92 = some j ∧ j.size ≠ 0 := by
  have h : (Try.prog.info? 92).map (·.size) = some 2 := by kernel_rfl
  cases e : Try.prog.info? 92 with
  | none => rw [e] at h; cases h
  | some j =>
    rw [e] at h
    exact ⟨j, rfl, by have : j.size = 2 := by simpa using h
                      omega⟩
theorem undP : Try.prog.underlying 87 = some (.pointer 92) := by kernel_rfl
theorem infoNo : (Try.prog.info? 74).map (·.size) = some 0 := by kernel_rfl
theorem tell_results (tmps : Array Value) (w : World) (g : Nat) (x y : Value) (h4 : tmps.getD 4 undef = x) (h5 : tmps.getD 5 undef = .pointer (some ⟨g, 0, none⟩)) (h6 : tmps.getD 6 undef = y) (hg : At w g 74 #[]) :
    (results Try.f44 tmps).run Try.prog w = .ok (.tuple #[x, .agg #[], y]) w := by
  have h4' : tmps[4]?.getD undef = x := by simpa using h4
  have h5' : tmps[5]?.getD undef = .pointer (some ⟨g, 0, none⟩) := by simpa using h5
  have h6' : tmps[6]?.getD undef = y := by simpa using h6
  have hl := run_loadVar_row (P := Try.prog) w g 74 74 #[] (0, 0) _ hg Try.underlying74 rfl infoNo
  simp [results, Try.results44, h4', h5', h6', asAddr, hl]
theorem ceilT_results (tmps : Array Value) (w : World) (g : Nat) (x y : Value) (h4 : tmps.getD 4 undef = x) (h5 : tmps.getD 5 undef = .pointer (some ⟨g, 0, none⟩)) (h6 : tmps.getD 6 undef = y) (hg : At w g 74 #[]) :
    (results Try.f30 tmps).run Try.prog w = .ok (.tuple #[x, .agg #[], y]) w := by
  have h4' : tmps[4]?.getD undef = x := by simpa using h4
  have h5' : tmps[5]?.getD undef = .pointer (some ⟨g, 0, none⟩) := by simpa using h5
  have h6' : tmps[6]?.getD undef = y := by simpa using h6
  have hl := run_loadVar_row (P := Try.prog) w g 74 74 #[] (0, 0) _ hg Try.underlying74 rfl infoNo
  simp [results, Try.results30, h4', h5', h6', asAddr, hl]
set_option maxRecDepth 20000 in
set_option maxHeartbeats 2000000 in
theorem tell_c {w : World} {b hb hs : Nat} {ns : List N2} (H : SkL w b hb hs ns) (o : Option N2) (ho : ∀ y, o = some y → y ∈ ns) (u : Option Addr) (hu : ptrN o = .pointer u) :
    Calls Try.prog 44 #[.pointer (some ⟨b, 0, none⟩), .pointer u] w fun e w' => e = .returned (tellV o) ∧ Fr No w w' := by
  have a1 := At.new w 74 #[]
  have g1 := (Fr.refl No w).alloc (.cells #[] 74)
  obtain ⟨W1, hW1⟩ : ∃ W1, w.alloc (.cells #[] 74) = W1 := ⟨_, rfl⟩
  rw [hW1] at a1 g1
  have HL1 := Lib.hid (H.keep g1 (fun _ _ h => h))
  have HG1 := Lib.hid g1
  have HA1 := Lib.hid a1
  clear H g1 a1
  cases o with
  | none =>
    obtain rfl : none = u := by injection hu
    clear ho hu
    go_enter Try.func44, Try.ntmps44
    go_wp2_with fail
    go_region
    go_wp2_with fail
    refine bodyPost_ret (tell_results _ _ _ _ _ rfl rfl rfl (HA1.out.keep (((Fr.refl No W1).alloc (.cells #[] 74)).drew) (fun h => h))) rfl ?_
    exact ⟨rfl, HG1.out.trans (((Fr.refl No W1).alloc _).drew)⟩
  | some y =>
    obtain rfl : some ⟨y.b, 0, none⟩ = u := by injection hu
    have c0 := HL1.out.lst.cell 0
    simp at c0
    have q4 := (HL1.out.nod y (ho y rfl)).1.cell 0
    simp at q4
    obtain ⟨j, hj, hjs⟩ := sizeT
    have heq := run_eql_ptr_other (P := Try.prog) W1 (a := ⟨y.b, 0, none⟩) (b := ⟨hb, 0, none⟩) undP hj hjs (fun e => (HL1.out.apart y (ho y rfl)).1 (by injection e)) (HL1.out.nod y (ho y rfl)).1 HL1.out.head
    have HPV := Lib.hid (fun w' (f : Fr No W1 w') => part_val ((HL1.out.nod y (ho y rfl)).1.keep f (fun h => h)))
    clear ho hu hj hjs
    go_enter Try.func44, Try.ntmps44
    have hpart := HPV.out W1.drew ((Fr.refl No W1).drew)
    go_wp2_with fail
    go_region
    go_wp2_with fail
    refine bodyPost_ret (tell_results _ _ _ _ _ rfl rfl rfl (HA1.out.keep ((Fr.refl No W1).drew) (fun h => h))) rfl ?_
    exact ⟨rfl, HG1.out.trans ((Fr.refl No W1).drew)⟩
set_option maxRecDepth 20000 in
set_option maxHeartbeats 2000000 in
theorem ceilT_c (b hb hs : Nat) (ns : List N2) (k : ByteArray) (w : World) (H : SkL w b hb hs ns) :
    Calls Try.prog 30 #[.pointer (some ⟨b, 0, none⟩), Value.string k] w fun e w' => e = .returned (tellV (ceilN ltS ns k)) ∧ Fr No w w' := by
  have a0 := At.new w 74 #[]
  have g0 := (Fr.refl No w).alloc (.cells #[] 74)
  obtain ⟨W0, hW0⟩ : ∃ W0, w.alloc (.cells #[] 74) = W0 := ⟨_, rfl⟩
  rw [hW0] at a0 g0
  have HL := Lib.hid (H.keep g0 (fun _ _ h => h))
  have HG0 := Lib.hid g0
  have HA0 := Lib.hid a0
  have HC := Lib.hid (ceil_c b hb hs ns k W0 HL.out)
  clear H a0 g0
  go_enter Try.func30, Try.ntmps30
  go_wp2_with fail
  refine HC.out.mono ?_
  rintro e w1 ⟨rfl, f1⟩
  have HF1 := Lib.hid f1
  have HL1 := Lib.hid (HL.out.keep f1 (fun _ _ h => h))
  obtain ⟨o0, ho0⟩ : ∃ o, ceilN ltS ns k = o := ⟨_, rfl⟩
  obtain ⟨u0, hu0⟩ := ptr_letter o0
  rw [ho0, hu0]
  have HO0 := Lib.hid ho0
  have HT := Lib.hid (tell_c HL1.out o0 (fun y hy => List.mem_of_find?_eq_some (ho0.trans hy)) u0 hu0)
  clear f1 ho0 hu0
  go_wp2_with fail
  refine HT.out.mono ?_
  rintro e w2 ⟨rfl, f2⟩
  have HF2 := Lib.hid (HF1.out.trans f2)
  clear f2
  cases o0 with
  | none =>
    rw [show tellV (none : Option N2) = .tuple #[(Value.string ⟨#[]⟩), (Value.agg #[]), .bool false] from rfl]
    go_wp2_with fail
    refine bodyPost_ret (ceilT_results _ _ _ _ _ rfl rfl rfl (HA0.out.keep HF2.out (fun h => h))) rfl ?_
    exact ⟨by rw [HO0.out]; rfl, HG0.out.trans HF2.out⟩
  | some y =>
    rw [show tellV (some y) = .tuple #[Value.string y.k, .agg #[], .bool true] from rfl]
    go_wp2_with fail
    refine bodyPost_ret (ceilT_results _ _ _ _ _ rfl rfl rfl (HA0.out.keep HF2.out (fun h => h))) rfl ?_
    exact ⟨by rw [HO0.out]; rfl, HG0.out.trans HF2.out⟩
set_option maxRecDepth 20000 in
set_option maxHeartbeats 2000000 in
theorem len_c {w : World} {b hb hs : Nat} {ns : List N2} (H : SkL w b hb hs ns) :
    Calls Try.prog 39 #[.pointer (some ⟨b, 0, none⟩)] w fun e w' => e = .returned (.int .i64 (ns.length : Int)) ∧ w = w' := by
  have c0 := H.lst.cell 1
  simp at c0
  clear H
  go_enter Try.func39, Try.ntmps39
  go_wp2_with fail
  go_ret
  exact ⟨rfl, rfl⟩
end Go.Proofs.Ytggjkpgkmohmdaa.KU
namespace Go.Proofs.Ytggjkpgkmohmdaa.KU
set_option linter.unusedVariables false
open Go.RowKit

theorem rowK : RowT Try.prog 46 9 (Value.string ⟨#[]⟩) 1 16 := ⟨Try.underlying46, by kernel_rfl, rfl, by decide⟩
def keysC (ns : List N2) : List Value := ns.map fun x => Value.string x.k
theorem keysC_length (ns : List N2) : (keysC ns).length = ns.length := by simp [keysC]
theorem make_keys (w : World) (c : Nat) (hc : c ≤ 100000) : ∃ v w', (Instr.makeSlice 46 (.int .i64 0) (.int .i64 (c : Int))).run Try.prog w = .ok v w' ∧ RowG w' (Gr No w w') 9 1 v 0 [] ∧ Fr No w w' := by
  obtain ⟨i0, hi, hz0, hz1, hz2⟩ := info_parts rowK.info
  have hr := run_make (P := Try.prog) w 46 9 i0 (Value.string ⟨#[]⟩) Try.underlying46 hi hz0 .i64 .i64 0 c (by omega) (by omega) (by rw [hz2]; omega) (by omega)
  rw [hz1] at hr
  refine ⟨_, _, hr, ⟨⟨rfl, .inr ⟨w.heap.size, c, _, rfl, Nat.zero_le _, heap_alloc_new w _, Nat.zero_le _, by unfold maxLen; omega, ?_, rfl⟩⟩, ?_⟩, (Fr.refl No w).alloc _⟩
  · simp [size_madeCells]
  · intro b hb
    have hb : w.heap.size = b := by simpa [Value.ownBlock] using hb
    exact .inr ⟨by omega, by simp; omega⟩
theorem next_at {ns : List N2} (hs : Sorted ltS ns) (j : Nat) (hj : j < ns.length) : nextN ltS ns (ns[j]).k = ns[j + 1]? := by
  have pw := List.pairwise_iff_getElem.1 hs
  by_cases h : j + 1 < ns.length
  · rw [List.getElem?_eq_getElem h]
    refine find_of_least ordS hs (List.getElem_mem h) (pw j (j + 1) hj h (by omega)) fun x hx hp => ?_
    obtain ⟨t, ht, rfl⟩ := List.getElem_of_mem hx
    rcases Nat.lt_trichotomy t (j + 1) with h1 | h1 | h1
    · exfalso
      have hp : ltS (ns[j]).k (ns[t]).k = true := hp
      rcases Nat.lt_or_ge t j with h2 | h2
      · rw [(ordS).asym (pw t j ht hj h2)] at hp
        cases hp
      · obtain rfl : t = j := by omega
        rw [(ordS).irr] at hp
        cases hp
    · left
      subst h1
      rfl
    · exact .inr (pw (j + 1) t h ht h1)
  · rw [List.getElem?_eq_none (by omega)]
    refine find_none fun x hx => ?_
    obtain ⟨t, ht, rfl⟩ := List.getElem_of_mem hx
    rcases Nat.lt_or_ge t j with h2 | h2
    · exact (ordS).asym (pw t j ht hj h2)
    · obtain rfl : t = j := by omega
      exact (ordS).irr _
def leftW (ns : List N2) (v : Value) : Nat := match v with
  | .pointer (some a) => leftV ns v + 1
  | _ => 0
theorem keysC_at {ns : List N2} (j : Nat) (hj : j < ns.length) : (keysC ns)[j]? = some (Value.string (ns[j]).k) := by simp [keysC, hj]
/-- What Keys tells. -/
structure KeysRet (ns : List N2) (w : World) (e : Ending) (w' : World) : Prop where
  ex : ∃ v, e = .returned v ∧ RowG w' (Gr No w w') 9 1 v ns.length (keysC ns)
  fr : Fr No w w'
set_option maxRecDepth 20000 in
set_option maxHeartbeats 2000000 in
theorem keys_c (b hb hs : Nat) (ns : List N2) (w : World) (H : SkL w b hb hs ns) (hl : ns.length ≤ 100000) :
    Calls Try.prog 27 #[.pointer (some ⟨b, 0, none⟩)] w (KeysRet ns w) := by
  obtain ⟨v0, w1, hmk, hrow, hfr⟩ := make_keys w ns.length (by omega)
  have HL1 := Lib.hid (H.keep hfr (fun _ _ h => h))
  have c0 := H.lst.cell 1
  simp at c0
  have c1 := HL1.out.lst.cell 0
  simp at c1
  obtain ⟨n0, q0, q1, _, q3, _⟩ := HL1.out.place none 0 (by omega) (fun x hx => by cases hx)
  have q4 : 0 < n0 := q1
  rw [show (Option.map (fun x : N2 => x.k) none) = none from rfl, nxt_first (fun x hx => (H.hts x hx).1)] at q3
  rw [show spotN hb (none : Option N2) = hb from rfl] at q0
  rw [show slotN hs (none : Option N2) = hs from rfl] at q0 q3
  obtain ⟨u0, hu0⟩ := ptr_letter ns.head?
  rw [hu0] at q3
  have HU0 := Lib.hid hu0
  have HL := Lib.hid H
  have HROW := Lib.hid hrow
  have HFR := Lib.hid hfr
  have HPUSH := Lib.hid (fun (wr : World) (vo : Value) (n : Nat) (cs : List Value) (x : ByteArray) (hrow : RowG wr (Gr No w wr) 9 1 vo n cs) (hfr : Fr No w wr) (hl : n ≤ 100000) =>
    show ∃ v' w', (Builtin.append_ #[46, 46] 46 #[vo, .slice (some ⟨wr.heap.size, 0, none⟩) 1 1]).run Try.prog (wr.alloc (.cells #[Value.string x] 9)) = .ok v' w' ∧
        RowG w' (Gr No w w') 9 1 v' (n + 1) (cs ++ [Value.string x]) ∧ Fr No w w' from by
      obtain ⟨v', w', h1, h2, h3⟩ := hrow.push rowK (fun q hq => hq.elim (fun h => h.elim) (fun h => h.2)) [Value.string x] rfl (by intro u hu; simp at hu; subst hu; rfl) (by omega) (by omega)
      exact ⟨v', w', h1, h2.join hfr.size h3.size, hfr.then_ h3 fun q hq h => h.elim (fun h => h) (fun h => absurd hq (by omega))⟩)
  clear H hu0 hrow hfr q1
  go_enter Try.func27, Try.ntmps27
  go_wp2_with fail
  clear q0 q3 q4 c0 c1 hmk
  go_loopw [3, 4] (fun vo u wr => ∃ j : Nat, j ≤ ns.length ∧ u = ptrN ns[j]? ∧ RowG wr (Gr No w wr) 9 1 vo j ((keysC ns).take j) ∧ Fr No w wr) (fun _ u wr => leftW ns u)
  case atStart => exact ⟨0, Nat.zero_le _, by rw [← HU0.out, List.head?_eq_getElem?], HROW.out, HFR.out⟩
  case round =>
    obtain ⟨j, hj, rfl, hrow, hfr⟩ := hrel
    by_cases hjl : j = ns.length
    · subst hjl
      rw [List.getElem?_eq_none (Nat.le_refl _), show ptrN (none : Option N2) = .pointer none from rfl]
      have HW := Lib.hid hrow
      have HF := Lib.hid hfr
      clear hrow hfr
      go_wp2_with fail
      go_ret
      refine ⟨⟨_, rfl, ?_⟩, HF.out⟩
      have := HW.out
      rw [← keysC_length, List.take_length, keysC_length] at this
      exact this
    · have hj' : j < ns.length := by omega
      rw [List.getElem?_eq_getElem hj', show ptrN (some ns[j]) = .pointer (some ⟨(ns[j]).b, 0, none⟩) from rfl]
      have hx : ns[j] ∈ ns := List.getElem_mem hj'
      have HLr := Lib.hid (HL.out.keep hfr (fun _ _ h => h))
      obtain ⟨v1, w2, hrun, hrow1, hfr1⟩ := HPUSH.out wr _ j ((keysC ns).take j) (ns[j]).k hrow hfr (by omega)
      have q2 := (HLr.out.nod _ hx).1.cell 0
      simp at q2
      obtain ⟨n0, q0, q1, _, q3, _⟩ := (HL.out.keep hfr1 (fun _ _ h => h)).place (some ns[j]) 0 (by omega) (fun x hx' => by cases hx'; exact ⟨hx, (HL.out.hts _ hx).1⟩)
      have q4 : 0 < n0 := q1
      rw [show (Option.map (fun x : N2 => x.k) (some ns[j])) = some (ns[j]).k from rfl, nxt_zero (fun x hx => (HL.out.hts x hx).1), next_at HL.out.srt j hj'] at q3
      rw [show spotN hb (some ns[j]) = (ns[j]).b from rfl] at q0
      rw [show slotN hs (some ns[j]) = (ns[j]).s from rfl] at q0 q3
      have HST : Hid (leftW ns (ptrN ns[j + 1]?) < leftW ns (.pointer (some ⟨(ns[j]).b, 0, none⟩))) := Lib.hid (by
        by_cases h2 : j + 1 < ns.length
        · have hn := next_at HL.out.srt j hj'
          rw [← nxt_zero (fun x hx => (HL.out.hts x hx).1), List.getElem?_eq_getElem h2] at hn
          have := leftV_step HL.out (o := some ns[j]) (fun x hx' => by cases hx'; exact hx) (i := 0) hn
          rw [List.getElem?_eq_getElem h2]
          exact Nat.succ_lt_succ this
        · rw [List.getElem?_eq_none (by omega)]
          exact Nat.succ_pos _)
      obtain ⟨u1, hu1⟩ := ptr_letter ns[j + 1]?
      rw [hu1] at q3
      have HU1 := Lib.hid hu1
      have HW : Hid (RowG w2 (Gr No w w2) 9 1 v1 (j + 1) ((keysC ns).take (j + 1))) := Lib.hid (by
        have e : (keysC ns).take (j + 1) = (keysC ns).take j ++ [Value.string (ns[j]).k] := by
          rw [List.take_add_one]
          simp [keysC, hj']
        rw [e]
        exact hrow1)
      have HF := Lib.hid hfr1
      have HRUN := Lib.hid hrun
      clear hrow hfr hrun hrow1 hfr1 hu1 q1 hx
      go_wp2_with (at_builtin; refine wpList_append_run rfl _ _ 46 rfl rfl rfl HRUN.out ?_)
      go_roundw
      case rel => exact ⟨j + 1, by omega, HU1.out.symm, HW.out, HF.out⟩
      case measure => rw [← HU1.out]; exact HST.out
end Go.Proofs.Ytggjkpgkmohmdaa.KU
