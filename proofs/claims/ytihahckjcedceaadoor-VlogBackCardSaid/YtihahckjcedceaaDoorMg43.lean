/-
  Texts of layer 14 and of what it stands on, one behind the other.
-/
import Derived.Test.YtihahckjcedceaaDoorMg42
import Derived.Test.YtihahckjcedceaaDoorMg40
import Derived.Test.YtihahckjcedceaaDoorMg41
import Derived.Test.YtihahckjcedceaaDoorMg26
import Derived.Deep.WholeRow

/- Layer 14, mathematics: a device of four zones of 400 bytes, whose zones have given bytes. -/
namespace Go.Proofs.YtihahckjcedceaaDoor
set_option linter.unusedVariables false
set_option linter.unusedSimpArgs false
open Go.RowKit

/-- A function, turned at one place. -/
def updB (b : Int → List UInt8) (z : Int) (l : List UInt8) : Int → List UInt8 := fun k => if k = z then l else b k
theorem updB_at (b : Int → List UInt8) (z : Int) (l : List UInt8) : updB b z l z = l := if_pos rfl
theorem updB_ne (b : Int → List UInt8) {z k : Int} (h : k ≠ z) (l : List UInt8) : updB b z l k = b k := if_neg h
/-- Four zones of 400 bytes; those from nx on were never used. -/
structure Dv4 (m : Dev) (b : Int → List UInt8) (nx : Int) : Prop where
  live : Live m
  n4 : m.zs.length = 4
  sz : m.size = 400
  op : m.opn = 4
  zb : ∀ z, 0 ≤ z → z < 4 → (zoneM m z).b = b z
  full : ∀ z, 0 ≤ z → z < 4 → (zoneM m z).s = 2 → (b z).length = 400
  new : ∀ z, nx ≤ z → 0 ≤ z → z < 4 → (zoneM m z).s = 0 ∧ b z = []
theorem Dv4.has {m : Dev} {b : Int → List UInt8} {nx : Int} (h : Dv4 m b nx) {z : Int} (h0 : 0 ≤ z) (h1 : z < 4) : hasZ m z = true := by
  unfold hasZ
  rw [h.n4]
  simp
  omega
theorem Dv4.new_ : Dv4 (newM 4 400 4) (fun _ => []) 0 := ⟨Live.new (by decide), rfl, rfl, rfl, fun z h0 h1 => by
    have hz : z = 0 ∨ z = 1 ∨ z = 2 ∨ z = 3 := by omega
    rcases hz with rfl | rfl | rfl | rfl <;> rfl, fun z h0 h1 => by
    have hz : z = 0 ∨ z = 1 ∨ z = 2 ∨ z = 3 := by omega
    rcases hz with rfl | rfl | rfl | rfl <;> intro h <;> exact absurd h (by decide), fun z _ h0 h1 => by
    have hz : z = 0 ∨ z = 1 ∨ z = 2 ∨ z = 3 := by omega
    rcases hz with rfl | rfl | rfl | rfl <;> exact ⟨rfl, rfl⟩⟩
theorem Dv4.le {m : Dev} {b : Int → List UInt8} {nx : Int} (h : Dv4 m b nx) {z : Int} (h0 : 0 ≤ z) (h1 : z < 4) : (b z).length ≤ 400 := by
  have := (zoneM_ok h.live.wf z).l
  rw [h.zb z h0 h1, h.sz] at this
  exact this
theorem Dv4.more {m : Dev} {b : Int → List UInt8} {nx : Int} (h : Dv4 m b nx) {ny : Int} (hn : nx ≤ ny) : Dv4 m b ny := ⟨h.live, h.n4, h.sz, h.op, h.zb, h.full, fun z a => h.new z (Int.le_trans hn a)⟩
theorem Dv4.room {m : Dev} {b : Int → List UInt8} {nx : Int} (h : Dv4 m b nx) {z : Int} (h0 : 0 ≤ z) (h1 : z < 4) : roomM m z = 400 - ((b z).length : Int) := by
  unfold roomM
  rw [h.has h0 h1, h.zb z h0 h1, h.sz]
  by_cases hs : (zoneM m z).s = 2
  · have := h.full z h0 h1 hs
    rw [if_pos (by rw [hs]; rfl)]
    omega
  · rw [if_neg (by simpa using hs)]
    rfl
theorem opened_lt {m : Dev} {z : Int} (hz : hasZ m z = true) (hs : (zoneM m z).s ≠ 1) : opened m < m.zs.length := by
  have h := opened_set hz (y := ⟨[], 0, 1⟩)
  have h2 : opened (setZ m z ⟨[], 0, 1⟩) ≤ (setZ m z ⟨[], 0, 1⟩).zs.length := List.countP_le_length
  have h3 : (setZ m z ⟨[], 0, 1⟩).zs.length = m.zs.length := by
    show (m.zs.set _ _).length = _
    rw [List.length_set]
  rw [if_neg (by simpa using hs)] at h
  simp at h
  omega
/-- An append: laid if there is room; refused if there is none. -/
theorem Dv4.app {m : Dev} {b : Int → List UInt8} {nx : Int} (h : Dv4 m b nx) {z : Int} (h0 : 0 ≤ z) (h1 : z < 4) (hz : z < nx) (l : List UInt8) :
    (appErr m z l ≠ 0 ∧ appM m z l = m ∧ (0 < l.length → 400 < (b z).length + l.length)) ∨
    (appErr m z l = 0 ∧ (b z).length + l.length ≤ 400 ∧ Dv4 (appM m z l) (updB b z (b z ++ l)) nx ∧ (appM m z l).done = m.done + 1) := by
  rcases h.live.app z l with ⟨a1, a2⟩ | ⟨a1, a2, a3, a4, a5, a6, a7, a8, a9⟩
  · refine .inl ⟨a1, a2, fun hl => ?_⟩
    by_cases hc : (b z).length + l.length ≤ 400
    · refine absurd ?_ a1
      rw [appErr_eq]
      have hr : resErr m z = 0 := by unfold resErr; rw [h.live.dn, h.has h0 h1]; rfl
      rw [if_pos hr]
      have hs2 : ((zoneM m z).s == 2) = false := by
        rw [beq_eq_false_iff_ne]
        intro hs
        have := h.full z h0 h1 hs
        omega
      rw [hs2]
      simp only [Bool.false_eq_true, if_false]
      rw [if_neg (by
        simp only [Bool.and_eq_true, decide_eq_true_eq, beq_iff_eq]
        rintro ⟨hs, ho⟩
        have := opened_lt (h.has h0 h1) (by omega)
        rw [h.n4] at this
        rw [h.op] at ho
        omega), if_neg (by rw [decide_eq_true_eq, h.zb z h0 h1, h.sz]; omega)]
    · omega
  · refine .inr ⟨a1, ?_, ⟨a4, a6.trans h.n4, a5.trans h.sz, a7.trans h.op, fun y y0 y1 => ?_, fun y y0 y1 => ?_, fun y y2 y0 y1 => ?_⟩, a8⟩
    · rw [h.zb z h0 h1, h.sz] at a3
      exact a3
    · rw [a9 y y0]
      by_cases hy : y = z
      · subst hy
        rw [if_pos rfl, updB_at, ← h.zb y h0 h1]
        rfl
      · rw [if_neg hy, updB_ne _ hy]
        exact h.zb y y0 y1
    · rw [a9 y y0]
      by_cases hy : y = z
      · subst hy
        rw [if_pos rfl, updB_at]
        intro hs
        unfold appZ at hs
        simp only at hs
        split at hs
        · rename_i hc
          rw [h.zb y h0 h1, h.sz] at hc
          rw [List.length_append]
          exact hc
        · exact absurd hs (by decide)
      · rw [if_neg hy, updB_ne _ hy]
        exact h.full y y0 y1
    · have hy : y ≠ z := by omega
      rw [a9 y y0, if_neg hy, updB_ne _ hy]
      exact h.new y y2 y0 y1
theorem lastZ_snoc (zs : List Int) (z : Int) : lastZ (zs ++ [z]) = z := by
  unfold lastZ
  rw [List.length_append, List.getD_eq_getElem?_getD]
  simp
/-- A record appended to the log. -/
theorem Dv4.put {m : Dev} {b : Int → List UInt8} {nx : Int} (h : Dv4 m b nx) {zs : List Int} {z : Int} (hzs : zs ≠ []) (hl : lastZ zs = z) (h0 : 0 ≤ z) (h1 : z < 4) (hz : z < nx) (l : List UInt8) :
    roomL m zs = 400 - ((b z).length : Int) ∧
    (((appT m zs l).2.2 ≠ 0 ∧ (400 < sizeL l.length → (appT m zs l).2.2 = 201) ∧ appDv m zs l = m ∧ 400 < (b z).length + sizeL l.length) ∨
    (appT m zs l = (z, ((b z).length : Int), 0) ∧ (b z).length + sizeL l.length ≤ 400 ∧ Dv4 (appDv m zs l) (updB b z (b z ++ frameL l)) nx ∧ (appDv m zs l).done = m.done + 1)) := by
  have hroom : roomL m zs = 400 - ((b z).length : Int) := by
    unfold roomL
    rw [if_neg hzs, hl]
    exact h.room h0 h1
  refine ⟨hroom, ?_⟩
  have hfl := frameL_length l
  have hpos := sizeL_pos l.length
  have hble := h.le h0 h1
  by_cases c1 : 400 < sizeL l.length
  · have hn : appNo m zs l = some 201 := by unfold appNo; rw [h.sz, if_pos c1]
    left
    unfold appT appDv
    rw [hn]
    exact ⟨show (201 : Int) ≠ 0 by decide, fun _ => rfl, rfl, by omega⟩
  by_cases c2 : 400 < (b z).length + sizeL l.length
  · have hn : appNo m zs l = some 73 := by unfold appNo; rw [h.sz, if_neg c1, if_neg hzs, hroom, if_pos (by omega)]
    left
    unfold appT appDv
    rw [hn]
    exact ⟨show (73 : Int) ≠ 0 by decide, fun h => absurd h c1, rfl, c2⟩
  · have hn : appNo m zs l = none := by unfold appNo; rw [h.sz, if_neg c1, if_neg hzs, hroom, if_neg (by omega)]
    right
    unfold appT appDv
    rw [hn]
    simp only
    rw [hl, h.live.cmdR]
    rcases h.app h0 h1 hz (frameL l) with ⟨a1, a2, a3⟩ | ⟨a1, a2, a3, a4⟩
    · have := a3 (by omega)
      omega
    · rw [if_pos a1, ptr_has (h.has h0 h1), h.zb z h0 h1]
      exact ⟨rfl, by omega, a3, a4⟩
theorem Dv4.none {m : Dev} {b : Int → List UInt8} {nx : Int} (h : Dv4 m b nx) (l : List UInt8) : roomL m [] = 0 ∧ (appT m [] l).2.2 ≠ 0 ∧ appDv m [] l = m := by
  refine ⟨by unfold roomL; rw [if_pos rfl], ?_⟩
  have hn : ∃ e, appNo m [] l = some e ∧ e ≠ 0 := by
    unfold appNo
    split
    · exact ⟨_, rfl, by decide⟩
    · exact ⟨_, rfl, by decide⟩
  obtain ⟨e, he, h0⟩ := hn
  unfold appT appDv
  rw [he]
  exact ⟨h0, rfl⟩
theorem putT_err {m : Dev} {zs : List Int} {l : List UInt8} (h : (appT m zs l).2.2 ≠ 0) : putT m zs l = (0, 0, 0, (appT m zs l).2.2) := by unfold putT; rw [if_neg h]
theorem putT_ok {m : Dev} {zs : List Int} {l : List UInt8} {z t : Int} (h : appT m zs l = (z, t, 0)) : putT m zs l = (z, t, (l.length : Int), 0) := by unfold putT; rw [h]; rfl
/-! ### What is read. -/
theorem Dv4.rd {m : Dev} {b : Int → List UInt8} {nx : Int} (h : Dv4 m b nx) {z : Int} (h0 : 0 ≤ z) (h1 : z < 4) : rdErr m z 0 (ptrM m z) = 0 ∧ rdB m z 0 (ptrM m z) = b z := by
  have hr : rdErr m z 0 (ptrM m z) = 0 := by
    rw [rdErr_live h.live (h.has h0 h1), ptr_has (h.has h0 h1)]
    omega
  refine ⟨hr, ?_⟩
  unfold rdB
  rw [if_pos hr, ptr_has (h.has h0 h1), h.zb z h0 h1]
  simp
theorem Dv4.out {m : Dev} {b : Int → List UInt8} {nx : Int} (h : Dv4 m b nx) : rdErr m 4 0 (ptrM m 4) = 70 := by
  have hh : hasZ m 4 = false := by unfold hasZ; rw [h.n4]; rfl
  unfold rdErr
  rw [h.live.dn, hh]
  rfl
theorem Dv4.ptr {m : Dev} {b : Int → List UInt8} {nx : Int} (h : Dv4 m b nx) {z : Int} (h0 : 0 ≤ z) (h1 : z < 4) : ptrM m z = ((b z).length : Int) := by rw [ptr_has (h.has h0 h1), h.zb z h0 h1]
/-- A frame that stands there is read. -/
theorem Dv4.at_ {m : Dev} {b : Int → List UInt8} {nx : Int} (h : Dv4 m b nx) {z : Int} (h0 : 0 ≤ z) (h1 : z < 4) {p r q : List UInt8} (hb : b z = p ++ (frameL r ++ q)) : raR m z (p.length : Int) (sizeL r.length : Int) = (r, 0) := by
  have hle := h.le h0 h1
  have hlen : (b z).length = p.length + (sizeL r.length + q.length) := by rw [hb, List.length_append, List.length_append, frameL_length]
  have hpos := sizeL_pos r.length
  have hr : rdErr m z (p.length : Int) (sizeL r.length : Int) = 0 := by
    rw [rdErr_live h.live (h.has h0 h1), h.zb z h0 h1]
    omega
  refine ra_frame hr ?_ (by omega)
  unfold rdB
  rw [if_pos hr, h.zb z h0 h1, hb, Int.toNat_natCast, Int.toNat_natCast, List.drop_left' rfl, List.take_left' (frameL_length r)]
/-- The records of frames, with something behind them. -/
theorem scan_front (rs : List (List UInt8)) (r : List UInt8) (h : (framesL rs ++ r).length < 9223372036854775808) : scanL (framesL rs ++ r) = rs ++ scanL r := by
  obtain ⟨t, h1, h2⟩ := scanL_is r
  refine scanL_eq h ⟨t, ?_, h2⟩
  rw [framesL_append, List.append_assoc, ← h1]
theorem scan_nil : scanL [] = [] := scanL_eq (by simp) ⟨[], rfl, headF_short (by decide)⟩
theorem scan_frames (rs : List (List UInt8)) (h : (framesL rs).length < 9223372036854775808) : scanL (framesL rs) = rs := by
  have := scan_front rs [] (by rw [List.append_nil]; exact h)
  rwa [List.append_nil, scan_nil, List.append_nil] at this
theorem vlOne_rec (z : Int) (a : Nat) {x : Ky} (hx : x.rt) (v : ByteArray) (hv : v.size < 9223372036854775808) : vlOne z a (recB x v) = [⟨x, v, z, (a : Int), ((recB x v).length : Int)⟩] := by
  unfold vlOne
  rw [rrR_enc hx v hv]
theorem recB_pos (x : Ky) (v : ByteArray) : 2 ≤ (recB x v).length := by
  unfold recB
  rw [List.length_append, textB_length, textB_length]
  have := enc_pos x.b.length
  have := enc_pos (bs v).length
  omega
/-- What stands at its pointer is got by its own key, and by no other. -/
theorem Dv4.get {m : Dev} {b : Int → List UInt8} {nx : Int} (h : Dv4 m b nx) {z : Int} (h0 : 0 ≤ z) (h1 : z < 4) {p q : List UInt8} {x : Ky} {v : ByteArray} (hx : x.rt) (hv : v.size < 9223372036854775808) (hb : b z = p ++ (frameL (recB x v) ++ q)) (y : Ky) :
    vgetR m z (p.length : Int) ((recB x v).length : Int) y = if x = y then (v, 0) else (⟨#[]⟩, 140) := by
  have hle := h.le h0 h1
  have hlen : (b z).length = p.length + (sizeL (recB x v).length + q.length) := by rw [hb, List.length_append, List.length_append, frameL_length]
  have hpos := sizeL_pos (recB x v).length
  have h2 := recB_pos x v
  unfold vgetR
  rw [if_pos ⟨h0, by omega, by omega, by omega, by omega, by omega⟩, Int.toNat_natCast, h.at_ h0 h1 hb]
  simp only
  rw [if_pos trivial, rrR_enc hx v hv]
  rfl
end Go.Proofs.YtihahckjcedceaaDoor

/- Layer 14: a log of the call's own, as the laws use it; their device, ref, small and fixed answer. -/
namespace Go.Proofs.YtihahckjcedceaaDoor
set_option linter.unusedVariables false
set_option linter.unusedSimpArgs false
open Go.RowKit

/-- A log made since W; K: blocks of the law's own, that are not the log's. -/
def OwnL (W : World) (K : Nat → Prop) (w : World) (g d : Nat) (v : Value) (zs : List Int) (m : Dev) : Prop := ∃ L F, Ld L w g d F m v zs ∧ (∀ k, L k → W.heap.size ≤ k ∧ ¬ K k) ∧ (∀ k, K k → k < w.heap.size) ∧ Fr No W w
/-- Blocks that are not of K. -/
def Off (K : Nat → Prop) : Nat → Prop := fun k => ¬ K k
section
variable {W w : World} {K : Nat → Prop} {g d : Nat} {v : Value} {zs : List Int} {m : Dev}
theorem OwnL.fr (h : OwnL W K w g d v zs m) : Fr No W w := by
  obtain ⟨_, _, _, _, _, h⟩ := h
  exact h
theorem OwnL.low (h : OwnL W K w g d v zs m) : ∀ k, K k → k < w.heap.size := by
  obtain ⟨_, _, _, _, h, _⟩ := h
  exact h
/-- Behind a call that made memory, and turned none. -/
theorem OwnL.no {w' : World} (h : OwnL W K w g d v zs m) (f : Fr No w w') : OwnL W K w' g d v zs m := by
  obtain ⟨L, F, h1, h2, h3, h4⟩ := h
  exact ⟨L, F, h1.keep f (fun _ _ h => h), h2, fun k hk => Nat.lt_of_lt_of_le (h3 k hk) f.size, h4.trans f⟩
/-- .. whose new blocks are the law's own. -/
theorem OwnL.new {w' : World} (h : OwnL W K w g d v zs m) (f : Fr No w w') : OwnL W (Gr K w w') w' g d v zs m := by
  obtain ⟨L, F, h1, h2, h3, h4⟩ := h
  exact ⟨L, F, h1.keep f (fun _ _ h => h), fun k hk => ⟨(h2 k hk).1, fun hg => hg.elim (h2 k hk).2 fun hg => by have := h1.low k hk; omega⟩, fun k hk => hk.elim (fun hk => Nat.lt_of_lt_of_le (h3 k hk) f.size) fun hk => hk.2, h4.trans f⟩
/-- .. that turned blocks of the law's own. -/
theorem OwnL.turn {T : Nat → Prop} {w' : World} (h : OwnL W K w g d v zs m) (f : Fr T w w') (hT : ∀ k, k < w.heap.size → T k → K k ∧ W.heap.size ≤ k) : OwnL W (Gr K w w') w' g d v zs m := by
  obtain ⟨L, F, h1, h2, h3, h4⟩ := h
  have f2 : Fr (fun k => T k ∧ k < w.heap.size) w w' := f.sub fun k hk h => ⟨h, hk⟩
  exact ⟨L, F, h1.keep f2 (fun k hk ht => (h2 k hk).2 (hT k ht.2 ht.1).1), fun k hk => ⟨(h2 k hk).1, fun hg => hg.elim (h2 k hk).2 fun hg => by have := h1.low k hk; omega⟩, fun k hk => hk.elim (fun hk => Nat.lt_of_lt_of_le (h3 k hk) f.size) fun hk => hk.2, h4.then_ f fun k hk ht => by
    have := (hT k (Nat.lt_of_lt_of_le hk h4.size) ht).2
    omega⟩
theorem OwnL.sub {K' : Nat → Prop} (h : OwnL W K w g d v zs m) (hk : ∀ k, K' k → K k) : OwnL W K' w g d v zs m := by
  obtain ⟨L, F, h1, h2, h3, h4⟩ := h
  exact ⟨L, F, h1, fun k hl => ⟨(h2 k hl).1, fun hh => (h2 k hl).2 (hk k hh)⟩, fun k hh => h3 k (hk k hh), h4⟩
theorem own_moved {L : Nat → Prop} {F' : Nat → Prop} {m' : Dev} {w' : World} {v' : Value} {zs' : List Int} (h2 : ∀ k, L k → W.heap.size ≤ k ∧ ¬ K k) (h3 : ∀ k, K k → k < w.heap.size) (h4 : Fr No W w) (h5 : Ld (Gr L w w') w' g d F' m' v' zs') (h6 : Fr L w w') : OwnL W K w' g d v' zs' m' ∧ Fr (Off K) w w' :=
  ⟨⟨_, F', h5, fun k hk => hk.elim (h2 k) fun hk => ⟨Nat.le_trans h4.size hk.1, fun hh => by have := h3 k hh; omega⟩, fun k hk => Nat.lt_of_lt_of_le (h3 k hk) h6.size, h4.then_ h6 fun k hk hl => by have := (h2 k hl).1; omega⟩, h6.sub fun k _ hk => (h2 k hk).2⟩
theorem no_off {w' : World} (f : Fr No w w') : Fr (Off K) w w' := f.sub fun _ _ h => h.elim
theorem OwnL.putY (h : OwnL W K w g d v zs m) (hw : WF m) (hd : m.done < 1000000) (hn : zs.length ≤ 1000000) (ht : Tab W) (x : Ky) (s : ByteArray) (hx : x.rt) (hs : s.size ≤ 100000) :
    Calls Tryd.prog 20 #[.pointer (some ⟨g, 0, none⟩), kyV x, .string s] w fun e w' =>
      e = .returned (.tuple #[ptV (putT m zs (recB x s)).1 (putT m zs (recB x s)).2.1 (putT m zs (recB x s)).2.2.1, .int .i64 (putT m zs (recB x s)).2.2.2]) ∧ OwnL W K w' g d v zs (appDv m zs (recB x s)) ∧ Fr (Off K) w w' := by
  obtain ⟨L, F, h1, h2, h3, h4⟩ := h
  exact (vput_yes h1 hw hd hn (ht.keep h4 (fun h => h)) x s hx hs).mono fun e w' ⟨a, ⟨F', b⟩, c⟩ => ⟨a, own_moved h2 h3 h4 b c⟩
theorem OwnL.putN (h : OwnL W K w g d v zs m) (x : Ky) (s : ByteArray) (hx : ¬ x.rt) :
    Calls Tryd.prog 20 #[.pointer (some ⟨g, 0, none⟩), kyV x, .string s] w fun e w' => e = .returned (.tuple #[ptV 0 0 0, .int .i64 30]) ∧ OwnL W K w' g d v zs m ∧ Fr No w w' :=
  (vput_no x s w g hx).mono fun e w' ⟨a, b⟩ => ⟨a, h.no b, b⟩
theorem OwnL.get (h : OwnL W K w g d v zs m) (hw : WF m) (ht : Tab W) (z t n : Int) (x : Ky) :
    Calls Tryd.prog 28 #[.pointer (some ⟨g, 0, none⟩), ptV z t n, kyV x] w fun e w' => e = .returned (.tuple #[.string (vgetR m z t n x).1, .int .i64 (vgetR m z t n x).2]) ∧ OwnL W K w' g d v zs m ∧ Fr No w w' := by
  obtain ⟨L, F, h1, h2, h3, h4⟩ := id h
  exact (vget_c h1 hw (ht.keep h4 (fun h => h)) z t n x).mono fun e w' ⟨a, b⟩ => ⟨a, h.no b, b⟩
theorem OwnL.readAt (h : OwnL W K w g d v zs m) (hw : WF m) (ht : Tab W) (z t n s : Int) (wt : wf64 t) (ws : wf64 s) (CS : ∀ w, Calls Tryd.prog 23 #[.int .i64 n] w fun e w' => e = .returned (.int .i64 s) ∧ w = w') :
    Calls Tryd.prog 30 #[.pointer (some ⟨g, 0, none⟩), .int .i64 z, .int .i64 t, .int .i64 n] w fun e w' => ∃ a c, e = .returned (.tuple #[.slice a (raR m z t s).1.length c, .int .i64 (raR m z t s).2]) ∧ In w' (From w.heap.size) a (raR m z t s).1 ∧ OwnL W K w' g d v zs m ∧ Fr No w w' := by
  obtain ⟨L, F, h1, h2, h3, h4⟩ := id h
  exact (lreadat_c h1 hw (ht.keep h4 (fun h => h)) z t n s wt ws CS).mono fun e w' ⟨a, c, b1, b2, b3⟩ => ⟨a, c, b1, b2, h.no b3, b3⟩
theorem OwnL.list (h : OwnL W K w g d v zs m) (hw : WF m) (ht : Tab W) (z : Int) :
    Calls Tryd.prog 27 #[.pointer (some ⟨d, 0, none⟩), .int .i64 z] w fun e w' => VlRet (rdErr m z 0 (ptrM m z)) (vlR z (rdB m z 0 (ptrM m z))) w e w' ∧ OwnL W (Gr K w w') w' g d v zs m ∧ Fr No w w' := by
  obtain ⟨L, F, h1, h2, h3, h4⟩ := id h
  exact (vlist_c h1.dz hw (ht.keep h4 (fun h => h)) z).mono fun e w' hr => by
    have hf : Fr No w w' := hr.elim (fun h => h.2.2) fun ⟨_, _, _, _, h⟩ => h
    exact ⟨hr, h.new hf, hf⟩
theorem OwnL.room (h : OwnL W K w g d v zs m) (hw : WF m) (hn : zs.length ≤ 1000000) :
    Calls Tryd.prog 24 #[.pointer (some ⟨g, 0, none⟩)] w fun e w' => e = .returned (.int .i64 (roomL m zs)) ∧ OwnL W K w' g d v zs m ∧ Fr No w w' := by
  obtain ⟨L, F, h1, h2, h3, h4⟩ := id h
  exact (lroom_c h1 hw hn).mono fun e w' ⟨a, b⟩ => ⟨a, h.no b, b⟩
theorem OwnL.pointer (h : OwnL W K w g d v zs m) (hw : WF m) (z : Int) :
    Calls Tryd.prog 26 #[.pointer (some ⟨d, 0, none⟩), .int .i64 z] w fun e w' => e = .returned (.int .i64 (ptrM m z)) ∧ w = w' := by
  obtain ⟨L, F, h1, h2, h3, h4⟩ := id h
  exact pointer_c h1.dz hw z
theorem OwnL.grow (h : OwnL W K w g d v zs m) (hw : WF m) (hn : zs.length < 1000000) (z : Int) (hz : okGrow m zs z = true) :
    Calls Tryd.prog 25 #[.pointer (some ⟨g, 0, none⟩), .int .i64 z] w fun e w' => e = .returned (.int .i64 0) ∧ ∃ v', OwnL W K w' g d v' (zs ++ [z]) m ∧ Fr (Off K) w w' := by
  obtain ⟨L, F, h1, h2, h3, h4⟩ := h
  have C := lgrow_c h1 hw hn z
  rw [hz] at C
  exact C.mono fun e w' ⟨a, ⟨v', b⟩, c⟩ => ⟨a, v', own_moved h2 h3 h4 b c⟩
theorem OwnL.append (h : OwnL W K w g d v zs m) (hw : WF m) (hd : m.done < 1000000) (hn : zs.length ≤ 1000000) (ht : Tab W) (a : Option Addr) (len cap : Nat) (l : List UInt8) (hl : l.length = len) (hlm : len ≤ 500000) (hr : Rd w a l) :
    Calls Tryd.prog 32 #[.pointer (some ⟨g, 0, none⟩), .slice a len cap] w fun e w' => (∃ x y z : Int, e = .returned (.tuple #[.int .i64 x, .int .i64 y, .int .i64 z])) ∧ OwnL W K w' g d v zs (appDv m zs l) ∧ Fr (Off K) w w' := by
  obtain ⟨L, F, h1, h2, h3, h4⟩ := h
  exact (lappend_c h1 hw hd hn a len cap l hl hlm hr (ht.keep h4 (fun h => h))).mono fun e w' ⟨a, ⟨F', b⟩, c⟩ => ⟨⟨_, _, _, a⟩, own_moved h2 h3 h4 b c⟩
theorem OwnL.dapp (h : OwnL W K w g d v zs m) (hw : WF m) (hd : m.done < 1000000) (z : Int) (a : Option Addr) (len cap : Nat) (l : List UInt8) (hl : l.length = len) (hlm : len ≤ 1000000) (hc : len ≤ cap) (hm : cap ≤ maxLen) (hr : Rd W a l) :
    Calls Tryd.prog 29 #[.pointer (some ⟨d, 0, none⟩), .int .i64 z, .slice a len cap] w fun e w' => e = .returned (.int .i64 (cmdR m (appErr m z l))) ∧ OwnL W K w' g d v zs (appM m z l) ∧ Fr (Off K) w w' := by
  subst hl
  obtain ⟨L, F, h1, h2, h3, h4⟩ := h
  exact (append_c h1.dz hw hd z (Till W.heap.size) a cap l hlm hc hm ((In.of_rd hr).keep h4 (fun _ _ h => h)) (fun k hk hf => by have := (h2 k (h1.FL k hf)).1; have hk : k < W.heap.size := hk; omega)).mono fun e w' hmv => by
    obtain ⟨a, ⟨F', b⟩, c⟩ := h1.move hmv
    exact ⟨a, own_moved h2 h3 h4 b c⟩
theorem own_new {F : Nat → Prop} (hd : Dz w d F m) (hF : ∀ k, F k → W.heap.size ≤ k) (f : Fr No W w) (a : Option Addr) (n cap : Nat) (zs : List Int) (hl : zs.length = n) (hn : n ≤ 1000000) (hr : Nums w a zs) :
    Calls Tryd.prog 17 #[.pointer (some ⟨d, 0, none⟩), .slice a n cap] w fun e w' => ∃ g v, e = .returned (.pointer (some ⟨g, 0, none⟩)) ∧ OwnL W No w' g d v zs m :=
  (lnew_c (L := F) hd (fun _ h => h) hd.1 a n cap zs hl hn hr).mono fun e w' ⟨g, v, a, b, c⟩ => ⟨g, v, a, _, F, b, fun k hk => ⟨hk.elim (hF k) fun hk => Nat.le_trans f.size hk.1, fun h => h⟩, fun k h => h.elim, f.trans c⟩
end
theorem device14_c (w : World) : Calls Tryd.prog 15 #[] w fun e w' => ∃ d F, e = .returned (.pointer (some ⟨d, 0, none⟩)) ∧ Dz w' d F (newM 4 400 4) ∧ (∀ k, F k → w.heap.size ≤ k) ∧ Fr No w w' := by
  have C := Lib.hid (new_c 4 400 4 w)
  go_enter Tryd.func15, Tryd.ntmps15
  go_wp2_with fail
  refine (show Calls _ _ _ _ _ from C.out).mono ?_
  rintro e w1 ⟨hf, _, hgo⟩
  obtain ⟨d, F, rfl, hd, hFB⟩ := hgo (by decide)
  have HO : Hid (∃ d' F, Ending.returned (Value.pointer (some ⟨d, 0, none⟩)) = .returned (.pointer (some ⟨d', 0, none⟩)) ∧ Dz w1 d' F (newM 4 400 4) ∧ (∀ k, F k → w.heap.size ≤ k) ∧ Fr No w w1) := Lib.hid ⟨d, F, rfl, hd, hFB, hf⟩
  clear hgo hf hd hFB
  go_wp2_with fail
  go_ret
  exact HO.out
theorem ref14_c (x : Ky) (w : World) : Calls Tryd.prog 19 #[kyV x] w (PlainRet (kyV x) w) := by
  unfold kyV
  go_enter Tryd.func19, Tryd.ntmps19
  go_wp2_with fail
  refine bodyPost_ret (v := .agg #[.string x.u, .int .i64 x.q, .int .i64 x.k]) (by simp [results, Tryd.results19, go_sem]) rfl ?_
  exact ⟨rfl, ((Fr.refl _ _).alloc _).alloc _⟩
theorem right14_c (x : Ky) (w : World) : Calls Tryd.prog 18 #[kyV x] w (PlainRet (.bool (decide x.rt)) w) := by
  by_cases h : x.rt
  · rw [decide_eq_true h]
    exact right_yes x.u x.q x.k w h
  · rw [decide_eq_false h]
    exact right_no x.u x.q x.k w h
/-! ### The fixed answer. -/
def kyA : Ky := ⟨⟨#[97]⟩, 1, 1⟩
def hello : ByteArray := ⟨#[104, 101, 108, 108, 111]⟩
theorem kyA_rt : kyA.rt := by decide
theorem recA_len : (recB kyA hello).length = 17 := by
  unfold recB
  rw [List.length_append, textB_length, textB_length, enc_len_small (by decide), enc_len_small (by decide)]
  decide
theorem sizeA : sizeL 17 = 22 := by
  unfold sizeL
  rw [enc_len_small (by decide)]
theorem kyA_put : putT (newM 4 400 4) [3] (recB kyA hello) = (3, 0, 17, 0) ∧ ∃ b, Dv4 (appDv (newM 4 400 4) [3] (recB kyA hello)) b 4 ∧ vgetR (appDv (newM 4 400 4) [3] (recB kyA hello)) 3 0 17 kyA = (hello, 0) := by
  have hD := Dv4.new_.more (show (0 : Int) ≤ 4 by decide)
  obtain ⟨_, h | ⟨h1, h2, h3, _⟩⟩ := hD.put (zs := [3]) (z := 3) (by decide) rfl (by decide) (by decide) (by decide) (recB kyA hello)
  · have := h.2.2.2
    rw [recA_len, sizeA] at this
    simp at this
  · refine ⟨by rw [putT_ok h1, recA_len]; rfl, _, h3, ?_⟩
    have hg := h3.get (z := 3) (by decide) (by decide) (p := []) (q := []) (x := kyA) (v := hello) kyA_rt (by decide) (by rw [updB_at]; simp) kyA
    rw [recA_len, if_pos rfl] at hg
    exact hg
set_option maxRecDepth 20000 in
set_option maxHeartbeats 3200000 in
theorem awake14_c (w : World) (ht : Tab w) : Calls Tryd.prog 12 #[] w (PlainRet (.bool true) w) := by
  have CD := Lib.hid (device14_c w)
  have HT := Lib.hid ht
  have HPN : ∀ (b : Nat) (w : World), (binOp .eql 36 (.pointer (some ⟨b, 0, none⟩)) (.pointer none)).run Tryd.prog w = .ok (.bool false) w := fun _ _ => rfl
  have HPL : ∀ (b : Nat) (w : World), (binOp .eql 39 (.pointer (some ⟨b, 0, none⟩)) (.pointer none)).run Tryd.prog w = .ok (.bool false) w := fun _ _ => rfl
  have HP := Lib.hid kyA_put
  have HW0 := Lib.hid (wf_new (z := 4) (s := 400) (o := 4) (by decide))
  have HD0 : Hid ((newM 4 400 4).done < 1000000) := Lib.hid (by decide)
  clear ht
  generalize newM 4 400 4 = m at *
  go_enter Tryd.func12, Tryd.ntmps12
  go_wp2_with fail
  refine (show Calls _ _ _ _ _ from CD.out).mono ?_
  rintro e w1 ⟨d, F, rfl, hd, hF, hf1⟩
  have f2 := (Fr.refl No w1).alloc (.cells #[.int .i64 3] 3)
  have CN := Lib.hid (own_new (W := w) (hd.keep f2 (fun _ _ h => h)) hF (hf1.trans f2) (some ⟨w1.heap.size, 0, none⟩) 1 1 [3] rfl (by omega) (fun _ => ⟨w1.heap.size, 0, rfl, fun i hi => by
    obtain rfl : i = 0 := by simp at hi; omega
    exact (At.new w1 3 #[.int .i64 3]).cell 0⟩))
  clear hd hF hf1 f2 CD
  go_wp2_with fail
  refine (show Calls _ _ _ _ _ from CN.out).mono ?_
  rintro e w3 ⟨g, v, rfl, ho⟩
  have f4 := (Fr.refl No w3).alloc (.cells #[.string ⟨#[97]⟩, .int .i64 1, .int .i64 1] 43)
  have K4 := At.new w3 43 #[.string ⟨#[97]⟩, .int .i64 1, .int .i64 1]
  have hO4 := ho.new f4
  have HB : Hid (Gr No w3 (w3.alloc (.cells #[.string ⟨#[97]⟩, .int .i64 1, .int .i64 1] 43)) w3.heap.size) := Lib.hid (.inr ⟨Nat.le_refl _, by simp⟩)
  have CP := Lib.hid ((hO4.putY HW0.out HD0.out (by simp) HT.out kyA hello kyA_rt (by decide)))
  rw [HP.out.1] at CP
  have HP := Lib.hid HP.out.2
  generalize appDv m [3] (recB kyA hello) = M at *
  have HK4 := Lib.hid K4
  clear ho f4 hO4 CN
  unfold kyV kyA hello at CP
  simp only at CP
  obtain ⟨w4, hw4⟩ : ∃ W, w3.alloc (.cells #[.string ⟨#[97]⟩, .int .i64 1, .int .i64 1] 43) = W := ⟨_, rfl⟩
  rw [hw4] at CP HK4 HB K4
  have c0 := K4.cell 0
  have c1 := K4.cell 1
  have c2 := K4.cell 2
  simp at c0 c1 c2
  clear K4
  go_wp2_with fail
  try rw [hw4]
  refine (show Calls _ _ _ _ _ from CP.out).mono ?_
  rintro e w5 ⟨rfl, ho, hf5⟩
  obtain ⟨w6, hw6⟩ : ∃ W, w5.alloc (.cells #[.int .i64 3, .int .i64 0, .int .i64 17] 23) = W := ⟨_, rfl⟩
  have f6 : Fr No w5 w6 := by rw [← hw6]; exact (Fr.refl No w5).alloc _
  have K5 := (HK4.out.keep hf5 (fun h => h HB.out)).keep f6 (fun h => h)
  have P6 : At w6 w5.heap.size 23 #[.int .i64 3, .int .i64 0, .int .i64 17] := by rw [← hw6]; exact At.new _ _ _
  have c0 := K5.cell 0
  have c1 := K5.cell 1
  have c2 := K5.cell 2
  have p0 := P6.cell 0
  have p1 := P6.cell 1
  have p2 := P6.cell 2
  simp at c0 c1 c2 p0 p1 p2
  obtain ⟨b, hD, hg⟩ := HP.out
  have CG := Lib.hid ((ho.no f6).get hD.live.wf HT.out 3 0 17 kyA)
  rw [hg] at CG
  clear K5 P6 hD hg ho f6 hf5 HP CP
  unfold kyV kyA hello ptV at CG
  unfold ptV
  go_wp2_with fail
  try rw [hw6]
  refine (show Calls _ _ _ _ _ from CG.out).mono ?_
  rintro e w7 ⟨rfl, ho, hf7⟩
  have p0 := hf7.cell p0 (fun h => h)
  have p1 := hf7.cell p1 (fun h => h)
  have p2 := hf7.cell p2 (fun h => h)
  have HF := Lib.hid ho.fr
  clear ho hf7 CG
  go_wp2_with fail
  go_ret
  exact ⟨rfl, HF.out⟩
end Go.Proofs.YtihahckjcedceaaDoor
