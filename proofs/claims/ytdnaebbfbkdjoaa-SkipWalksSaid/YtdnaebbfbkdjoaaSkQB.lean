/-
  Layer 5, lists of int,bool: has, newTower, New, Put.
-/
import Derived.Test.YtdnaebbfbkdjoaaSkPB
import Derived.Deep.WholeRow
namespace Go.Proofs.Ytdnaebbfbkdjoaa.KB
set_option linter.unusedVariables false
open Go.RowKit

theorem infoPN : (Try.prog.info? 91).map (fun i => (i.zero, i.size, i.bytes)) = some (some (.pointer none), 1, 8) := by kernel_rfl
theorem make_ptrs (w : World) (n : Nat) (h : n ≤ 12) :
    (Instr.makeSlice 97 (.int .i64 (n : Int)) (.int .i64 (n : Int))).run Try.prog w = .ok (.slice (some ⟨w.heap.size, 0, none⟩) n n) (w.alloc (.cells (madeCells #[.pointer none] n) 91)) := by
  obtain ⟨i0, hi, hz0, hz1, hz2⟩ := info_parts infoPN
  have hr := run_make (P := Try.prog) w 97 91 i0 (.pointer none) Try.underlying97 hi hz0 .i64 .i64 n n (by omega) (by omega) (by rw [hz2]; omega) (by omega)
  rw [hz1] at hr
  simp only [Int.toNat_natCast, Nat.mul_one] at hr
  exact hr
def hasN (o : Option N2) (k : Int) : Bool := match o with
  | none => false
  | some y => decide (y.k = k)
theorem hasN_some {o : Option N2} {k : Int} (h : hasN o k = true) : ∃ y, o = some y ∧ y.k = k := by
  cases o with
  | none => cases h
  | some y => exact ⟨y, rfl, of_decide_eq_true h⟩
theorem hasN_not {o : Option N2} {k : Int} (h : hasN o k = false) : ∀ y, o = some y → y.k ≠ k := fun y hy => by
  subst hy
  exact of_decide_eq_false h
set_option maxRecDepth 20000 in
set_option maxHeartbeats 1000000 in
theorem has_c {w : World} {b hb hs : Nat} {ns : List N2} (H : SkL w b hb hs ns) (o : Option N2) (ho : ∀ y, o = some y → y ∈ ns) (k : Int) (u : Option Addr) (hu : ptrN o = .pointer u) :
    Calls Try.prog 53 #[.pointer u, (Value.int .i64) k] w fun e w' => e = .returned (.bool (hasN o k)) ∧ w = w' := by
  cases o with
  | none =>
    obtain rfl : none = u := by injection hu
    go_enter Try.func53, Try.ntmps53
    go_wp2_with fail
    go_ret
    exact ⟨rfl, rfl⟩
  | some y =>
    obtain rfl : some ⟨y.b, 0, none⟩ = u := by injection hu
    have q4 := (H.nod y (ho y rfl)).1.cell 0
    simp at q4
    clear H ho hu
    by_cases hk : y.k = k
    · have d1 : (y.k == k) = true := by rw [hk]; exact beq_self_eq_true _
      have HD : Hid (hasN (some y) k = true) := Lib.hid (decide_eq_true hk)
      clear hk
      go_enter Try.func53, Try.ntmps53
      go_wp2_with fail
      go_ret
      exact ⟨by rw [HD.out]; rfl, rfl⟩
    · have d1 : (y.k == k) = false := (beqI _ _).trans (decide_eq_false hk)
      have HD : Hid (hasN (some y) k = false) := Lib.hid (decide_eq_false hk)
      clear hk
      go_enter Try.func53, Try.ntmps53
      go_wp2_with fail
      go_ret
      exact ⟨by rw [HD.out]; rfl, rfl⟩
/-- What newTower makes. -/
structure TowerRet (h : Nat) (w : World) (e : Ending) (w' : World) : Prop where
  ex : ∃ b s, e = .returned (.pointer (some ⟨b, 0, none⟩)) ∧ w.heap.size ≤ b ∧ w.heap.size ≤ s ∧ b ≠ s ∧ At w' b 99 #[(Value.int .i64 0), (Value.bool false), .slice (some ⟨s, 0, none⟩) h h] ∧ At w' s 91 (madeCells #[.pointer none] h)
  fr : Fr No w w'
set_option maxRecDepth 20000 in
set_option maxHeartbeats 1000000 in
theorem newTower_c (h : Nat) (hh : h ≤ 12) (w : World) : Calls Try.prog 51 #[.int .i64 (h : Int)] w (TowerRet h w) := by
  have hmk := make_ptrs w h hh
  have a1 := At.new w 91 (madeCells #[.pointer none] h)
  have g1 := (Fr.refl No w).alloc (.cells (madeCells #[.pointer none] h) 91)
  have z1 : (w.alloc (.cells (madeCells #[.pointer none] h) 91)).heap.size = w.heap.size + 1 := by simp
  obtain ⟨W1, hW1⟩ : ∃ W1, w.alloc (.cells (madeCells #[.pointer none] h) 91) = W1 := ⟨_, rfl⟩
  rw [hW1] at hmk a1 g1 z1
  have HA1 := Lib.hid a1
  have HG1 := Lib.hid g1
  have HZ1 := Lib.hid z1
  clear hW1 a1 g1 z1
  go_enter Try.func51, Try.ntmps51
  go_wp2_with fail
  go_ret
  refine ⟨⟨W1.heap.size, w.heap.size, rfl, by rw [HZ1.out]; omega, Nat.le_refl _, by rw [HZ1.out]; omega, At.new W1 _ _, HA1.out.keep ((Fr.refl No W1).alloc _) (fun h => h)⟩, HG1.out.alloc _⟩
theorem madePtrs (ns : List N2) (n : N2) : madeCells #[.pointer none] n.h = ownJ ltI ns n 0 := by
  rw [ownJ_zero]
  apply Array.ext
  · simp [size_madeCells]
  · intro i h1 h2
    have h3 : i < n.h := by simpa [size_madeCells] using h1
    simp [madeCells, Nat.mod_one]
theorem madeNone (f : Nat → Option N2) (n : Nat) (hf : ∀ i, f i = none) : madeCells #[.pointer none] n = lnk f n := by
  apply Array.ext
  · simp [size_madeCells, lnk]
  · intro i h1 h2
    have h3 : i < n := by simpa [size_madeCells] using h1
    simp [madeCells, Nat.mod_one, lnk, hf, ptrN]
/-- An empty list. -/
structure NewRet (w : World) (e : Ending) (w' : World) : Prop where
  ex : ∃ b hb hs, e = .returned (.pointer (some ⟨b, 0, none⟩)) ∧ SkL w' b hb hs [] ∧ ∀ z, SkOn b hb hs ([] : List N2) z → w.heap.size ≤ z
  fr : Fr No w w'
set_option maxRecDepth 20000 in
set_option maxHeartbeats 1000000 in
theorem new_c (w : World) : Calls Try.prog 34 #[] w (NewRet w) := by
  have HC := Lib.hid (newTower_c 12 (Nat.le_refl _) w)
  go_enter Try.func34, Try.ntmps34
  go_wp2_with fail
  refine HC.out.mono ?_
  rintro e w1 ⟨⟨b, s, rfl, hb, hs, hne, a1, a2⟩, f1⟩
  have HA1 := Lib.hid a1
  have HA2 := Lib.hid a2
  have HF1 := Lib.hid f1
  clear a1 a2 f1
  go_wp2_with fail
  go_ret
  have g2 := (Fr.refl No w1).alloc (.cells #[.pointer (some ⟨b, 0, none⟩), .int .i64 0] 94)
  refine ⟨⟨w1.heap.size, b, s, rfl, ⟨At.new w1 _ _, HA1.out.keep g2 (fun h => h), ?_, fun x hx => (by cases hx), fun x hx => (by cases hx), List.Pairwise.nil, fun x hx => (by cases hx), fun x hx => (by cases hx)⟩, ?_⟩, HF1.out.alloc _⟩
  · rw [← madeNone (fun i => nxt ltI ([] : List N2) i none) 12 (fun i => rfl)]
    exact HA2.out.keep g2 (fun h => h)
  · rintro z (rfl | rfl | rfl | ⟨x, hx, _⟩)
    · exact HF1.out.size
    · exact hb
    · exact hs
    · cases hx
/-- WHAT PUT TELLS AND DOES. -/
def PutS (ns : List N2) (k : Int) (v : Bool) (h : Int) (e : Ending) (ns' : List N2) : Prop :=
  ((h < 1 ∨ 12 < h) ∧ e = .returned (.tuple #[.bool false, .int .i64 70]) ∧ ns' = ns) ∨
  (¬ (h < 1 ∨ 12 < h) ∧ ∃ x ∈ ns, x.k = k ∧ e = .returned (.tuple #[.bool false, .int .i64 0]) ∧ ns' = ns.map (setN x.b v)) ∨
  (¬ (h < 1 ∨ 12 < h) ∧ (∀ x ∈ ns, x.k ≠ k) ∧ ∃ nd : N2, nd.k = k ∧ nd.v = v ∧ (nd.h : Int) = h ∧ e = .returned (.tuple #[.bool true, .int .i64 0]) ∧ ns' = insN ltI nd ns)
structure PutRet (b hb hs : Nat) (ns : List N2) (k : Int) (v : Bool) (h : Int) (w : World) (e : Ending) (w' : World) : Prop where
  ex : ∃ ns', SkL w' b hb hs ns' ∧ (∀ z, SkOn b hb hs ns' z → SkOn b hb hs ns z ∨ w.heap.size ≤ z) ∧ PutS ns k v h e ns'
  fr : Fr (SkOn b hb hs ns) w w'
/-- While the new node is put in: below level j it stands in its place. -/
structure PutJ (b hb hs : Nat) (ns : List N2) (nd : N2) (w : World) (pb : Nat) (PC : Array Value) (j : Nat) (wr : World) : Prop where
  sk : SkM ltI (Value.int .i64) Value.bool (Value.int .i64 0) (Value.bool false) 94 99 91 (nxtJ ltI ns nd j) (ns.length : Int) wr b hb hs ns
  ob : At wr nd.b 99 #[(Value.int .i64) nd.k, Value.bool nd.v, .slice (some ⟨nd.s, 0, none⟩) nd.h nd.h]
  os : At wr nd.s 91 (ownJ ltI ns nd j)
  pa : At wr pb 95 PC
  fr : Fr (SkOn b hb hs ns) w wr
theorem PutJ.step {b hb hs : Nat} {ns : List N2} {nd : N2} {w : World} {pb : Nat} {PC : Array Value} {j : Nat} {wr : World} (h : PutJ b hb hs ns nd w pb PC j wr) (hk : ∀ x ∈ ns, x.k ≠ nd.k) {p : Option N2} (he : EndsAt ltI ns nd.k j p) (hj : j < nd.h)
    (fresh : ∀ z, SkOn b hb hs ns z → z ≠ nd.b ∧ z ≠ nd.s) (hn : w.heap.size ≤ nd.s) {u1 : Value} (e1 : ptrN (nxt ltI ns j (p.map (·.k))) = u1) {sj : Nat} (e2 : slotN hs p = sj) :
    PutJ b hb hs ns nd w pb PC (j + 1) ((wr.setCell ⟨nd.s, j, none⟩ u1).setCell ⟨sj, j, none⟩ (.pointer (some ⟨nd.b, 0, none⟩))).drew := by
  subst e1 e2
  have on : SkOn b hb hs ns (slotN hs p) := by
    cases p with
    | none => exact .inr (.inr (.inl rfl))
    | some x => exact .inr (.inr (.inr ⟨x, (he.places x rfl).1, .inr rfl⟩))
  have tp : ∃ cs, At wr (slotN hs p) 91 cs := by
    cases p with
    | none => exact ⟨_, h.sk.hnx⟩
    | some x => exact ⟨_, (h.sk.nod x (he.places x rfl).1).2⟩
  obtain ⟨cs, tp⟩ := tp
  have f1 : Fr (One nd.s) wr (wr.setCell ⟨nd.s, j, none⟩ (ptrN (nxt ltI ns j (p.map (·.k))))) := Fr.setCell (Fr.refl (One nd.s) wr) (p := ⟨nd.s, j, none⟩) (fun _ => show One nd.s nd.s from rfl) _
  have f2 : Fr (One (slotN hs p)) (wr.setCell ⟨nd.s, j, none⟩ (ptrN (nxt ltI ns j (p.map (·.k))))) ((wr.setCell ⟨nd.s, j, none⟩ (ptrN (nxt ltI ns j (p.map (·.k))))).setCell ⟨slotN hs p, j, none⟩ (.pointer (some ⟨nd.b, 0, none⟩))).drew := (Fr.setCell (Fr.refl (One (slotN hs p)) _) (p := ⟨slotN hs p, j, none⟩) (fun _ => show One (slotN hs p) (slotN hs p) from rfl) _).drew
  have d : ∀ W : World, Fr No W W.drew := fun W => (Fr.refl No W).drew
  refine ⟨?_, ?_, ?_, ?_, ?_⟩
  · have := (h.sk.keep f1 (fun z hz e => (fresh z hz).2 e)).level ordI (by decide) (by decide) nd hk j hj p he
    exact this.keep (d _) (fun _ _ h => h)
  · refine (h.ob.keep f1 (fun e => ?_)).keep f2 (fun e => (fresh _ on).1 (show nd.b = slotN hs p from e).symm)
    exact absurd (At.ty h.ob (by rw [show nd.b = nd.s from e]; exact h.os)) (by decide)
  · have := h.os.set_ j (ptrN (nxt ltI ns j (p.map (·.k))))
    rw [ownJ_set ordI h.sk.srt nd hk j he] at this
    exact this.keep f2 (fun e => (fresh _ on).2 (show nd.s = slotN hs p from e).symm)
  · refine (h.pa.keep f1 (fun e => ?_)).keep f2 (fun e => ?_)
    · exact absurd (At.ty h.pa (by rw [show pb = nd.s from e]; exact h.os)) (by decide)
    · exact absurd (At.ty h.pa (by rw [show pb = slotN hs p from e]; exact tp)) (by decide)
  · refine (h.fr.then_ f1 (fun x hx e => absurd hn (by have e : x = nd.s := e; omega))).then_ f2 (fun x hx e => ?_)
    rw [show x = slotN hs p from e]
    exact on
theorem PutJ.end_ {b hb hs : Nat} {ns : List N2} {nd : N2} {w : World} {pb : Nat} {PC : Array Value} {wr : World} (h : PutJ b hb hs ns nd w pb PC nd.h wr) (hk : ∀ x ∈ ns, x.k ≠ nd.k) (hh : 1 ≤ nd.h ∧ nd.h ≤ 12)
    (fresh : ∀ z, SkOn b hb hs ns z → z ≠ nd.b ∧ z ≠ nd.s) (hn : w.heap.size ≤ nd.s ∧ w.heap.size ≤ nd.b) {e : Ending} (he : e = .returned (.tuple #[.bool true, .int .i64 0])) : PutRet b hb hs ns nd.k nd.v (nd.h : Int) w e (wr.setCell ⟨b, 1, none⟩ (.int .i64 ((ns.length : Int) + 1))) := by
  refine ⟨⟨insN ltI nd ns, ?_, ?_, .inr (.inr ⟨by omega, hk, nd, rfl, rfl, rfl, he, rfl⟩)⟩, h.fr.setCell (p := ⟨b, 1, none⟩) (fun _ => .inl rfl) _⟩
  · have := (h.sk.done ordI nd hk h.ob h.os hh fresh).count (by decide) (by decide) ((ns.length : Int) + 1)
    show SkM _ _ _ _ _ _ _ _ _ _ _ _ _ _ _
    rw [insN_length]
    exact this
  · rintro z (e | e | e | ⟨x, hx, e⟩)
    · exact .inl (.inl e)
    · exact .inl (.inr (.inl e))
    · exact .inl (.inr (.inr (.inl e)))
    · rcases (insN_mem nd ns x).1 hx with ex | hx'
      · rw [ex] at e
        right
        rcases e with e | e
        · rw [e]; exact hn.2
        · rw [e]; exact hn.1
      · exact .inl (.inr (.inr (.inr ⟨x, hx', e⟩)))
set_option maxRecDepth 20000 in
set_option maxHeartbeats 4000000 in
theorem put_c (b hb hs : Nat) (ns : List N2) (k : Int) (v : Bool) (h : Int) (w : World) (H : SkL w b hb hs ns) (hl : ns.length ≤ 10000) :
    Calls Try.prog 35 #[.pointer (some ⟨b, 0, none⟩), (Value.int .i64) k, Value.bool v, .int .i64 h] w (PutRet b hb hs ns k v h w) := by
  have HL := Lib.hid H
  have HC := Lib.hid (below_c b hb hs ns k w H)
  clear H
  go_enter Try.func35, Try.ntmps35
  by_cases r1 : h < 1
  · have d1 : decide (h < 1) = true := decide_eq_true r1
    go_wp2_with fail
    go_ret2
    exact ⟨⟨ns, HL.out, fun z hz => .inl hz, .inl ⟨.inl r1, rfl, rfl⟩⟩, Fr.refl _ w⟩
  have d1 : decide (h < 1) = false := decide_eq_false r1
  by_cases r2 : 12 < h
  · have d2 : decide (12 < h) = true := decide_eq_true r2
    go_wp2_with fail
    go_ret2
    exact ⟨⟨ns, HL.out, fun z hz => .inl hz, .inl ⟨.inr r2, rfl, rfl⟩⟩, Fr.refl _ w⟩
  have d2 : decide (12 < h) = false := decide_eq_false r2
  go_wp2_with fail
  refine HC.out.mono ?_
  rintro e w1 ⟨pt, hpt, rfl, f1⟩
  have HPT := Lib.hid hpt
  have HF1 := Lib.hid f1
  have HL1 := Lib.hid (HL.out.keep f1 (fun _ _ h => h))
  clear hpt f1
  obtain ⟨PC, hPC⟩ : ∃ PC, pathC hb pt 0 = PC := ⟨_, rfl⟩
  have hz : PC.size = 12 := by rw [← hPC]; simp [pathC]
  have hst := run_storeCells_new (P := Try.prog) w1 95 #[.pointer none, .pointer none, .pointer none, .pointer none, .pointer none, .pointer none, .pointer none, .pointer none, .pointer none, .pointer none, .pointer none, .pointer none] PC (by rw [hz]; exact sizePath) (by rw [hz]; rfl) (by
    rw [← hPC, pathC_zero]
    simp [Value.oneCell'])
  have A2 := At.new w1 95 PC
  have f2 := (Fr.refl No w1).alloc (.cells PC 95)
  obtain ⟨W2, hW2⟩ : ∃ W2, w1.alloc (.cells PC 95) = W2 := ⟨_, rfl⟩
  rw [hW2] at hst A2 f2
  have HL2 := Lib.hid (HL1.out.keep f2 (fun _ _ h => h))
  have HF2 := Lib.hid (HF1.out.trans f2)
  have pc : ∀ i, i < 12 → W2.cell? ⟨w1.heap.size, i, none⟩ = some (.pointer (some ⟨spotN hb (pt i), 0, none⟩)) := fun i hi => by
    rw [A2.cell, ← hPC, pathC_zero]
    simp [hi]
  have HPC := Lib.hid pc
  have HA2 := Lib.hid A2
  rw [hPC]
  have p0 := pc 0 (by omega)
  obtain ⟨n0, q0, q1, _, q3, _⟩ := HL2.out.place (pt 0) 0 (by omega) (HPT.out 0 (by omega)).places
  obtain ⟨s0, hs0⟩ : ∃ s, slotN hs (pt 0) = s := ⟨_, rfl⟩
  rw [hs0] at q0 q3
  have q4 : 0 < n0 := q1
  obtain ⟨o0, ho0⟩ : ∃ o, nxt ltI ns 0 ((pt 0).map (·.k)) = o := ⟨_, rfl⟩
  obtain ⟨u0, hu0⟩ : ∃ u, ptrN o0 = .pointer u := by
    cases o0 with
    | none => exact ⟨_, rfl⟩
    | some z => exact ⟨_, rfl⟩
  rw [ho0, hu0] at q3
  have HO0 := Lib.hid ho0
  have hm : ∀ y, o0 = some y → y ∈ ns := fun y hy => (nxt_some (ho0.trans hy)).1
  have HM := Lib.hid hm
  have HU0 := Lib.hid hu0
  have HH := Lib.hid (has_c HL2.out o0 hm k u0 hu0)
  clear hPC pc A2 f2 hW2 hs0 q1 ho0 hu0 hm
  go_wp2_with fail
  refine HH.out.mono ?_
  rintro e w2 ⟨rfl, rfl⟩
  cases hN : hasN o0 k with
  | true =>
    have HY := Lib.hid (hasN_some hN)
    obtain ⟨y, hy, hyk⟩ := HY.out
    have HYM := Lib.hid (HM.out y hy)
    have HU1 := HU0.out
    rw [hy] at HU1
    obtain rfl : some ⟨y.b, 0, none⟩ = u0 := by injection HU1
    have q5 := (HL2.out.nod y HYM.out).1.cell 1
    have q7 := (HL2.out.nod y HYM.out).1.frozen 1
    simp at q5
    clear hN hy HU1 HU0 HO0
    have HYK := Lib.hid hyk
    clear hyk
    go_wp2_with fail
    go_ret2
    refine ⟨⟨ns.map (setN y.b v), ?_, ?_, .inr (.inl ⟨by omega, y, HYM.out, HYK.out, rfl, rfl⟩)⟩, ?_⟩
    · have := HL2.out.again (by decide) (by decide) HYM.out v
      show SkM _ _ _ _ _ _ _ _ _ _ _ _ _ _ _
      rw [List.length_map]
      exact this
    · rintro z (e | e | e | ⟨x, hx, e⟩)
      · exact .inl (.inl e)
      · exact .inl (.inr (.inl e))
      · exact .inl (.inr (.inr (.inl e)))
      · obtain ⟨x', hx', rfl⟩ := List.mem_map.1 hx
        rw [setN_b, setN_s] at e
        exact .inl (.inr (.inr (.inr ⟨x', hx', e⟩)))
    · exact (HF2.out.sub (fun _ _ h => absurd h (fun h => h))).setCell (p := ⟨y.b, 1, none⟩) (fun _ => .inr (.inr (.inr ⟨y, HYM.out, .inl rfl⟩))) _
  | false =>
    have HK : Hid (∀ x ∈ ns, x.k ≠ k) := Lib.hid ((HPT.out 0 (by omega)).absent ordI HL2.out.srt (fun x hx => (HL2.out.hts x hx).1) fun z hz => hasN_not hN z (HO0.out.symm.trans hz))
    clear hN
    obtain ⟨m, rfl⟩ : ∃ m : Nat, h = (m : Int) := ⟨h.toNat, by omega⟩
    have HT := Lib.hid (newTower_c m (by omega) W2)
    go_wp2_with fail
    refine HT.out.mono ?_
    rintro e W3 ⟨⟨nb, nsl, rfl, gb, gs, gne, a1, a2⟩, f3⟩
    have b3 := a1.cell 0
    have b4 := a1.cell 1
    have b6 := a1.frozen 0
    have b7 := a1.frozen 1
    simp at b3 b4
    obtain ⟨nd, hnd⟩ : ∃ nd : N2, nd = ⟨nb, nsl, k, v, m⟩ := ⟨_, rfl⟩
    have hnb : nb = nd.b := by rw [hnd]
    have hns : nsl = nd.s := by rw [hnd]
    have hnh : nd.h = m := by rw [hnd]
    have hnk : nd.k = k := by rw [hnd]
    have hnv : nd.v = v := by rw [hnd]
    rw [hnb] at b3 b4 b6 b7 gb gne a1
    rw [hns] at a1 a2 gs gne
    rw [hnb]
    rw [show madeCells #[.pointer none] m = ownJ ltI ns nd 0 by rw [← madePtrs, hnd]] at a2
    have START : Hid (∀ W4, (W3.setCell ⟨nd.b, 0, none⟩ ((Value.int .i64) k)).setCell ⟨nd.b, 1, none⟩ (Value.bool v) = W4 → PutJ b hb hs ns nd w w1.heap.size PC 0 W4) := Lib.hid fun W4 e => by
      have g4 : Fr (One nd.b) W3 W4 := by
        rw [← e]
        exact ((Fr.refl (One nd.b) W3).setCell (p := ⟨nd.b, 0, none⟩) (fun _ => rfl) _).setCell (p := ⟨nd.b, 1, none⟩) (fun _ => rfl) _
      have nob : ∀ z, SkOn b hb hs ns z → ¬ One nd.b z := fun z hz (e : z = nd.b) => absurd (HL2.out.lt_size z hz) (by rw [e]; omega)
      refine ⟨((HL2.out.keep f3 (fun _ _ h => h)).keep g4 nob).start nd, ?_, a2.keep g4 (fun e : nd.s = nd.b => gne e.symm), (HA2.out.keep f3 (fun h => h)).keep g4 (fun e : w1.heap.size = nd.b => absurd HA2.out.lt (by omega)), ?_⟩
      · rw [hnk, hnv, hnh, ← e]
        simpa using (a1.set_ 0 ((Value.int .i64) k)).set_ 1 (Value.bool v)
      · exact ((HF2.out.trans f3).sub (fun _ _ h => absurd h (fun h => h))).then_ g4 (fun x hx (e : x = nd.b) => absurd HF2.out.size (by omega))
    have fresh : ∀ z, SkOn b hb hs ns z → z ≠ nd.b ∧ z ≠ nd.s := fun z hz => by
      have := HL2.out.lt_size z hz
      omega
    have HFR := Lib.hid fresh
    have pne : w1.heap.size ≠ nd.s := by
      have := HA2.out.lt
      omega
    have bne : nd.b ≠ nd.s := gne
    have HNB := Lib.hid (show W2.heap.size ≤ nd.b ∧ W2.heap.size ≤ nd.s from ⟨gb, gs⟩)
    have HNH := Lib.hid hnh
    have HNK := Lib.hid hnk
    have HNV := Lib.hid hnv
    clear a1 a2 f3 hnd hns hnb fresh hnh hnk hnv gb gs
    clear q0 q3 q4 p0 hst
    go_wp2_with fail
    go_loopw [48] (fun i wr => ∃ j : Nat, i = .int .i64 (j : Int) ∧ j ≤ m ∧ PutJ b hb hs ns nd w w1.heap.size PC j wr) (fun i _ => m - (intOf i).toNat)
    case atStart => exact ⟨0, rfl, by omega, START.out _ rfl⟩
    case round =>
      obtain ⟨j, rfl, hj, hPJ⟩ := hrel
      by_cases hjm : j = m
      · subst hjm
        have d9 : decide ((j : Int) < (j : Int)) = false := by simp
        have l0 := hPJ.sk.lst.cell 1
        have l1 := hPJ.sk.lst.frozen 1
        simp at l0
        have HPJ := Lib.hid hPJ
        clear hPJ
        go_wp2_with fail
        go_ret2
        have := (show PutJ b hb hs ns nd w w1.heap.size PC nd.h wr by rw [HNH.out]; exact HPJ.out).end_ (fun x hx => by rw [HNK.out]; exact HK.out x hx) (by rw [HNH.out]; omega) HFR.out (by have := HNB.out; have := HF2.out.size; omega) rfl
        rw [HNK.out, HNV.out, HNH.out] at this
        exact this
      · have d9 : decide ((j : Int) < (m : Int)) = true := by rw [decide_eq_true_eq]; omega
        have hj12 : j < 12 := by omega
        have pj : wr.cell? ⟨w1.heap.size, j, none⟩ = some (.pointer (some ⟨spotN hb (pt j), 0, none⟩)) := by
          rw [hPJ.pa.cell, ← HA2.out.cell]
          exact HPC.out j hj12
        obtain ⟨nj, r0, r1, _, r3, r4⟩ := hPJ.sk.place (pt j) j hj12 (HPT.out j hj12).places
        have o0 := hPJ.ob.cell 2
        rw [HNH.out] at o0
        simp at o0
        have o1 : wr.cell? ⟨nd.s, j, none⟩ = some (.pointer none) := by
          rw [hPJ.os.cell]
          unfold ownJ
          rw [lnk_at _ nd.h j (by rw [HNH.out]; omega), if_neg (Nat.lt_irrefl j)]
          rfl
        have o2 := hPJ.os.frozen j
        have sp := (HFR.out (spotN hb (pt j)) (by
          cases ep : pt j with
          | none => exact .inr (.inl rfl)
          | some x => exact .inr (.inr (.inr ⟨x, ((HPT.out j hj12).places x ep).1, .inl rfl⟩)))).2
        have sl := (HFR.out (slotN hs (pt j)) (by
          cases ep : pt j with
          | none => exact .inr (.inr (.inl rfl))
          | some x => exact .inr (.inr (.inr ⟨x, ((HPT.out j hj12).places x ep).1, .inr rfl⟩)))).2
        have HPJ := Lib.hid hPJ
        obtain ⟨sj, hsj⟩ : ∃ s, slotN hs (pt j) = s := ⟨_, rfl⟩
        obtain ⟨bj, hbj⟩ : ∃ s, spotN hb (pt j) = s := ⟨_, rfl⟩
        rw [hsj] at r0 r3 r4 sl
        rw [hbj] at r0 pj sp
        rw [show nxtJ ltI ns nd j j ((pt j).map (·.k)) = nxt ltI ns j ((pt j).map (·.k)) by unfold nxtJ; rw [if_neg (Nat.lt_irrefl j)]] at r3
        obtain ⟨vj, hvj⟩ : ∃ u, ptrN (nxt ltI ns j ((pt j).map (·.k))) = .pointer u := by
          cases nxt ltI ns j ((pt j).map (·.k)) with
          | none => exact ⟨_, rfl⟩
          | some z => exact ⟨_, rfl⟩
        rw [hvj] at r3
        have HSJ := Lib.hid hsj
        have HVJ := Lib.hid hvj
        clear hPJ hsj hbj hvj
        go_wp2_with fail
        go_region
        go_wp2_with fail
        go_roundw
        case rel => exact ⟨j + 1, rfl, by omega, HPJ.out.step (fun x hx => by rw [HNK.out]; exact HK.out x hx) (p := pt j) (by rw [HNK.out]; exact HPT.out j hj12) (by rw [HNH.out]; omega) HFR.out (by have := HNB.out; have := HF2.out.size; omega) HVJ.out HSJ.out⟩
        case measure =>
          show m - ((j : Int) + 1).toNat < m - ((j : Int)).toNat
          omega
end Go.Proofs.Ytdnaebbfbkdjoaa.KB
