/-
  Texts of layer 13 and of what it stands on, one behind the other.
-/
import Derived.Test.YtlobnbbndkhcbaaGreatDoorMg18
import Derived.Test.YtlobnbbndkhcbaaGreatDoorMg09
import Derived.Test.YtlobnbbndkhcbaaGreatDoorMg05
import Derived.Test.YtlobnbbndkhcbaaGreatDoorMg21
import Derived.Lib.BitFns
import Derived.Lib.Tables
import Derived.Lib.Walk
import Derived.Laws.MakeOwn
import Derived.RangeFuncNested
import Derived.RangeFuncBound
import Derived.RangeFuncCalls
import Derived.RangeFuncLeaves
import Derived.Shelf.Abstract
import Derived.Shelf.RegionOpen
import Derived.WalkKit
import Derived.OwnWalkIn
import Derived.TacticsInMore
import Derived.LoopNIn
import Derived.LoopIn

/- Layer 9: contracts of sumOf, Frame, Size, bytes.Equal; of the document's Frame. -/
namespace Go.Proofs.YtlobnbbndkhcbaaGreatDoor
set_option linter.unusedVariables false
open Go.RowKit

theorem wordL_cells (c : Int) (h0 : 0 ≤ c) (h1 : c < 4294967296) : ((wordL c).map byt).toArray = #[Value.int .u8 (c / 16777216), Value.int .u8 (c / 65536 % 256), Value.int .u8 (c / 256 % 256), Value.int .u8 (c % 256)] := by
  have e : ∀ x : Int, 0 ≤ x → x < 256 → byt (byteOf x) = .int .u8 x := fun x hx hy => by
    show Value.int .u8 _ = _
    rw [byteOf_nat]
    simp [Lit.wf, IntKind.min, IntKind.max, IntKind.signed, IntKind.bits]
    omega
  unfold wordL
  simp only [List.map_cons, List.map_nil]
  rw [e _ (by omega) (by omega), e _ (by omega) (by omega), e _ (by omega) (by omega), e _ (by omega) (by omega)]
set_option maxHeartbeats 400000 in
theorem word_n (c : Int) (h0 : 0 ≤ c) (h1 : c < 4294967296) (w : World) : Calls Tryz.prog 108 #[.int .u32 c] w (NewRow (wordL c) w) := by
  have E := Lib.hid (wordL_cells c h0 h1)
  have R := Lib.hid (row_new w (wordL c) (by rw [wordL_length]; simp [maxLen]))
  have h2 : c / 16777216 % 256 = c / 16777216 := by omega
  have F := Lib.hid ((Fr.refl No w).alloc (.cells ((wordL c).map byt).toArray 5))
  go_enter Tryz.func108, Tryz.ntmps108
  go_wp2_with fail
  go_ret
  have R := R.out
  have F := F.out
  rw [E.out] at R F
  exact ⟨_, rfl, R, F⟩
set_option maxHeartbeats 400000 in
theorem sumOf_c (a : Option Addr) (len cap : Nat) (l : List UInt8) (w : World) (hl : l.length = len) (hm : len ≤ 140737488351232) (hr : Rd w a l) (ht : Tab w) :
    Calls Tryz.prog 106 #[.slice a len cap] w (NewRow (wordL (sumW l)) w) := by
  have H1 := Lib.hid (of_c a len cap l w hl hm hr ht)
  have hlt := bv_lt (Crc.of l)
  have H2 := Lib.hid (mask_c ((Crc.of l).toNat : Int) w (by omega) (by omega))
  have hs := sumW_range l
  have H3 := Lib.hid (word_n (sumW l) hs.1 hs.2 w)
  have HE : Hid (mk ((Crc.of l).toNat : Int) = sumW l) := Lib.hid rfl
  clear hl hr ht
  rw [HE.out] at H2
  generalize sumW l = s at *
  generalize (Crc.of l).toNat = c at *
  generalize wordL s = R at *
  go_enter Tryz.func106, Tryz.ntmps106
  go_wp2_with fail
  refine (show Calls _ _ _ _ _ from H1.out).mono ?_
  rintro e w' ⟨rfl, rfl⟩
  go_wp2_with fail
  refine (show Calls _ _ _ _ _ from H2.out).mono ?_
  rintro e w' ⟨rfl, rfl⟩
  go_wp2_with fail
  refine (show Calls _ _ _ _ _ from H3.out).mono ?_
  rintro e w' ⟨v, rfl, h1, h2⟩
  go_wp2_with fail
  go_ret
  exact ⟨v, rfl, h1, h2⟩
theorem Tab.keep {w w' : World} {S : Nat → Prop} (h : Tab w) (f : Fr S w w') (hS : ¬ S 1) : Tab w' := fun i hi => f.cell (h i hi) hS
set_option maxRecDepth 20000 in
set_option maxHeartbeats 400000 in
theorem frame_c (a : Option Addr) (len cap : Nat) (l : List UInt8) (w : World) (hl : l.length = len) (hm : len ≤ 100000000000) (hr : Rd w a l) (ht : Tab w) :
    Calls Tryz.prog 70 #[.slice a len cap] w (NewRow (frameL l) w) := by
  obtain ⟨W0, hW0⟩ : ∃ W, w.alloc (.cells #[.slice none 0 0, .bool false] 155) = W := ⟨_, rfl⟩
  have f0 : Fr No w W0 := by rw [← hW0]; exact (Fr.refl No w).alloc _
  have wr0 : Wr W0 w.heap.size No [] false := by rw [← hW0]; exact Wr.new w
  have s0 : W0.heap.size = w.heap.size + 1 := by rw [← hW0]; simp
  have HC := Lib.hid (wtext_c a len cap l W0 w.heap.size No [] false wr0 hl (by simp; omega) (((In.of_rd hr).keep f0 (fun _ _ h => h)).sub fun k _ hk => ⟨fun h => by have h2 : k < w.heap.size := hk; omega, fun h => h⟩))
  rw [List.nil_append] at HC
  have HT := Lib.hid ht
  have HF0 := Lib.hid f0
  have hbl : (bodyL l).length ≤ 100000000009 := by
    unfold bodyL
    rw [List.length_append]
    have := enc_len9 (show l.length < 9223372036854775808 by omega)
    omega
  have HB : Hid (enc len ++ l = bodyL l) := Lib.hid (by unfold bodyL; rw [hl])
  rw [HB.out] at HC
  have HFL : Hid (wordL (sumW (bodyL l)) ++ bodyL l = frameL l) := Lib.hid rfl
  clear hl hr ht f0 wr0
  generalize bodyL l = B at *
  go_enter Tryz.func70, Tryz.ntmps70
  go_wp2_with fail
  refine (show Calls _ _ _ _ _ from HC.out).mono ?_
  rintro e w1 ⟨rfl, h1, h2⟩
  have HC2 := Lib.hid (wbytes_c w1 w.heap.size _ B h1 (by omega))
  have HF1 : Hid (Fr No w w1) := Lib.hid (HF0.out.then_ h2 fun k hk h => h.elim (fun h => by have h : k = w.heap.size := h; omega) fun h => h.elim)
  clear h1 h2 HC
  go_wp2_with fail
  refine (show Calls _ _ _ _ _ from HC2.out).mono ?_
  rintro e w2 ⟨a2, c2, rfl, g1, g2, g3, g4⟩
  have HF2 : Hid (Fr No w w2) := Lib.hid (HF1.out.trans g4)
  obtain ⟨n, hn⟩ : ∃ n, B.length = n := ⟨_, rfl⟩
  obtain ⟨_, _, e2, _, _, i2⟩ := g3.form
  obtain ⟨rfl, _, rfl⟩ := Value.slice.inj e2
  rw [hn] at g1 g3 hbl
  rw [hn]
  have ht2 := HT.out.keep HF2.out (fun h => h)
  have HC3 := Lib.hid (sumOf_c a2 n c2 B w2 hn (by omega) i2.rd ht2)
  have HI := Lib.hid i2
  have HN := Lib.hid hn
  clear HC2 g3 g4 ht2 i2 e2 hn
  go_wp2_with fail
  refine (show Calls _ _ _ _ _ from HC3.out).mono ?_
  rintro e w3 ⟨v, rfl, r3, f3⟩
  obtain ⟨v', W, hrun, hrow, hfr⟩ := r3.append a2 n c2 B HN.out ((HI.out.keep f3 (fun k _ h => h)).rd) (by rw [wordL_length]; omega)
  have HRUN := Lib.hid hrun
  rw [HFL.out] at hrow
  have HR : Hid (NewRow (frameL l) w (.returned v') W) := Lib.hid ⟨v', rfl, (hrow.join f3.size hfr.size).sub (fun k _ h => h.elim (fun h => h.elim) fun h => .inr ⟨Nat.le_trans HF2.out.size h.1, h.2⟩),
    (HF2.out.trans f3).then_ hfr fun k hk h => h.elim (fun h => h.elim) fun h => by have := HF2.out.size; omega⟩
  clear hrun hrow hfr r3 f3 HC3 HI HT HF0 HF1 HF2
  go_wp2_with (at_builtin; refine wpList_append_run rfl _ _ 27 rfl rfl rfl HRUN.out ?_)
  go_ret
  exact HR.out
set_option maxHeartbeats 400000 in
theorem fsize_c (n : Nat) (w : World) (h : n ≤ 100000000000) : Calls Tryz.prog 123 #[.int .i64 (n : Int)] w fun e w' => e = .returned (.int .i64 (sizeL n : Int)) ∧ w = w' := by
  have HC := Lib.hid (size_c n w (by omega))
  have HS : Hid (sizeL n = 4 + (enc n).length + n) := Lib.hid rfl
  have h9 := enc_len9 (show n < 9223372036854775808 by omega)
  generalize sizeL n = S at *
  generalize (enc n).length = E at *
  go_enter Tryz.func123, Tryz.ntmps123
  go_wp2_with fail
  refine (show Calls _ _ _ _ _ from HC.out).mono ?_
  rintro e w' ⟨rfl, rfl⟩
  go_wp2_with fail
  go_ret
  refine ⟨?_, rfl⟩
  rw [HS.out]
  simp
set_option maxHeartbeats 400000 in
theorem fsize_neg (n : Int) (w : World) (h : n < 0) : Calls Tryz.prog 123 #[.int .i64 n] w fun e w' => e = .returned (.int .i64 0) ∧ w = w' := by
  go_enter Tryz.func123, Tryz.ntmps123
  go_wp2_with fail
  go_ret
  exact ⟨rfl, rfl⟩
set_option maxRecDepth 20000 in
set_option maxHeartbeats 400000 in
theorem refFrame_c (a : Option Addr) (len cap : Nat) (l : List UInt8) (w : World) (hl : l.length = len) (hm : len ≤ 1000000) (hr : Rd w a l) :
    Calls Tryz.prog 45 #[.slice a len cap] w (NewRow (frameL l) w) := by
  have HC := Lib.hid (refText_c a len cap l w hl hm hr)
  have hbl : (bodyL l).length ≤ 1000009 := by
    unfold bodyL
    rw [List.length_append]
    have := enc_len9 (show l.length < 9223372036854775808 by omega)
    omega
  have HB : Hid (enc len ++ l = bodyL l) := Lib.hid (by unfold bodyL; rw [hl])
  rw [HB.out] at HC
  have HFL : Hid (wordL (sumW (bodyL l)) ++ bodyL l = frameL l) := Lib.hid rfl
  clear hl hr
  generalize bodyL l = B at *
  have hlt := bv_lt (Crc.of B)
  have HE : Hid (mk ((Crc.of B).toNat : Int) = sumW B) := Lib.hid rfl
  have hs := sumW_range B
  have H2 := Lib.hid (fun w => refmask_c ((Crc.of B).toNat : Int) w (by omega) (by omega))
  rw [HE.out] at H2
  have HOF := Lib.hid (fun (a : Option Addr) (len cap : Nat) (w : World) (hl : B.length = len) (hm : len ≤ 140737488351232) (hr : Rd w a B) => refof_c a len cap B w hl hm hr)
  have HWC := Lib.hid (wordL_cells (sumW B) hs.1 hs.2)
  generalize sumW B = s at *
  generalize (Crc.of B).toNat = c at *
  have hs2 : s / 16777216 % 256 = s / 16777216 := by omega
  go_enter Tryz.func45, Tryz.ntmps45
  go_wp2_with fail
  refine (show Calls _ _ _ _ _ from HC.out).mono ?_
  rintro e w1 ⟨v, rfl, r1, f1⟩
  obtain ⟨a2, c2, rfl, g1, g2, i2⟩ := r1.form
  obtain ⟨n, hn⟩ : ∃ n, B.length = n := ⟨_, rfl⟩
  rw [hn] at g1 r1 hbl
  rw [hn]
  have HC3 := Lib.hid (HOF.out a2 n c2 w1 hn (by omega) i2.rd)
  have HI := Lib.hid i2
  have HN := Lib.hid hn
  have HF1 := Lib.hid f1
  clear HC r1 i2 hn f1
  go_wp2_with fail
  refine (show Calls _ _ _ _ _ from HC3.out).mono ?_
  rintro e w' ⟨rfl, rfl⟩
  go_wp2_with fail
  refine (H2.out w1).mono ?_
  rintro e w' ⟨rfl, rfl⟩
  have R4 := row_new w1 (wordL s) (by rw [wordL_length]; simp [maxLen])
  have f4 := (Fr.refl No w1).alloc (.cells ((wordL s).map byt).toArray 5)
  rw [HWC.out] at R4 f4
  obtain ⟨v', W, hrun, hrow, hfr⟩ := R4.append a2 n c2 B HN.out ((HI.out.keep f4 (fun k _ h => h)).rd) (by rw [wordL_length]; omega)
  have HRUN := Lib.hid hrun
  rw [HFL.out] at hrow
  have HR : Hid (NewRow (frameL l) w (.returned v') W) := Lib.hid ⟨v', rfl, (hrow.join f4.size hfr.size).sub (fun k _ h => h.elim (fun h => h.elim) fun h => .inr ⟨Nat.le_trans HF1.out.size h.1, h.2⟩),
    (HF1.out.trans f4).then_ hfr fun k hk h => h.elim (fun h => h.elim) fun h => by have := HF1.out.size; omega⟩
  clear hrun hrow hfr R4 f4 HC3 HI HF1 H2 HOF
  go_wp2_with (at_builtin; refine wpList_append_run rfl _ _ 27 rfl rfl rfl HRUN.out ?_)
  go_ret
  exact HR.out
set_option maxHeartbeats 400000 in
theorem equal_c (a a' : Option Addr) (len cap len' cap' : Nat) (l l' : List UInt8) (w : World) (hl : l.length = len) (hl' : l'.length = len') (hr : Rd w a l) (hr' : Rd w a' l') :
    Calls Tryz.prog 53 #[.slice a len cap, .slice a' len' cap'] w fun e w' => e = .returned (.bool (l == l')) ∧ w = w' := by
  have h1 := conv_rd w a len cap l hl hr
  have h2 := conv_rd w a' len' cap' l' hl' hr'
  have t1 := strOf_toList l
  have t2 := strOf_toList l'
  clear hl hl' hr hr'
  go_enter Tryz.func53, Tryz.ntmps53
  go_wp2_with fail
  go_ret
  exact ⟨rfl, rfl⟩
end Go.Proofs.YtlobnbbndkhcbaaGreatDoor

/- Layer 4: a filter in memory; contracts of its plain functions: Bits, Probes, Set, New. -/
namespace Go.Proofs.YtlobnbbndkhcbaaGreatDoor
set_option linter.unusedVariables false
open Go.RowKit

theorem At.alloc {w : World} {g : Nat} {t : TypeId} {cs : Array Value} (h : At w g t cs) (o : Obj) : At (w.alloc o) g t cs := h.keep ((Fr.refl No w).alloc o) (fun h => h)
theorem At.new' (w : World) (t : TypeId) (cs : Array Value) {g : Nat} (h : w.heap.size = g) : At (w.alloc (.cells cs t)) g t cs := by
  subst h
  exact At.new w t cs
/-- A FILTER: its block, that of its bytes. -/
structure Fil (w : World) (b g : Nat) (bs : List UInt8) (p : Nat) : Prop where
  ob : ∃ c, At w b 144 #[.int .i64 (p : Int), .slice (some ⟨g, 0, none⟩) bs.length c] ∧ Row w (One g) (.slice (some ⟨g, 0, none⟩) bs.length c) bs ∧ c ≤ maxLen
  ne : b ≠ g
theorem Fil.keep {w w' : World} {b g : Nat} {bs : List UInt8} {p : Nat} {T : Nat → Prop} (h : Fil w b g bs p) (f : Fr T w w') (h1 : ¬ T b) (h2 : ¬ T g) : Fil w' b g bs p := by
  obtain ⟨c, h3, h4, h5⟩ := h.ob
  exact ⟨⟨c, h3.keep f h1, h4.keep f (fun k hk hT => h2 (by have : k = g := hk; rwa [this] at hT)), h5⟩, h.ne⟩
theorem Fil.put {w : World} {b g : Nat} {bs : List UInt8} {p : Nat} (h : Fil w b g bs p) {i : Nat} (hi : i < 8 * bs.length) (x : Nat) (hx : x = (bs.getD (i / 8) 0).toNat ||| 2 ^ (i % 8)) :
    Fil (w.setCell ⟨g, i / 8, none⟩ (.int .u8 (x : Int))) b g (putB bs i) p ∧ Fr (One g) w (w.setCell ⟨g, i / 8, none⟩ (.int .u8 (x : Int))) := by
  obtain ⟨c, h3, h4, h5⟩ := h.ob
  obtain ⟨g', cap, hv, _, _, _, _, _, hset⟩ := h4.at_ (i := i / 8) (by omega)
  simp only [Value.slice.injEq, Option.some.injEq, Addr.mk.injEq, and_true] at hv
  obtain ⟨rfl, _, rfl⟩ := hv
  obtain ⟨h6, h7⟩ := hset (UInt8.ofNat x)
  have hx2 : x < 256 := by rw [hx]; exact or_lt256 _ _ (u8_lt _) (by omega)
  rw [toNat_of x hx2] at h6 h7
  refine ⟨⟨⟨c, ?_, ?_, h5⟩, h.ne⟩, h7⟩
  · rw [putB_length]
    exact h3.keep h7 (fun e => h.ne e)
  · rw [putB_length]
    unfold putB
    rw [← hx]
    exact h6
theorem Fil.bytes {w : World} {b g : Nat} {bs : List UInt8} {p : Nat} (h : Fil w b g bs p) (i : Nat) (hi : i < bs.length) : w.cell? ⟨g, i, none⟩ = some (.int .u8 ((bs.getD i 0).toNat : Int)) ∧ w.frozen? ⟨g, i, none⟩ = false := by
  obtain ⟨c, h3, h4, h5⟩ := h.ob
  obtain ⟨g', cap, hv, _, _, _, h8, h9, hset⟩ := h4.at_ hi
  simp only [Value.slice.injEq, Option.some.injEq, Addr.mk.injEq, and_true] at hv
  obtain ⟨rfl, _, rfl⟩ := hv
  exact ⟨h8, h9⟩
theorem Fil.lt {w : World} {b g : Nat} {bs : List UInt8} {p : Nat} (h : Fil w b g bs p) : b < w.heap.size ∧ g < w.heap.size := by
  obtain ⟨c, h3, h4, h5⟩ := h.ob
  exact ⟨h3.lt, (h4.block (k := g) rfl).2⟩
/-- Its two cells, its bytes as a slice that is read. -/
theorem Fil.cells {w : World} {b g : Nat} {bs : List UInt8} {p : Nat} (h : Fil w b g bs p) : ∃ c, w.cell? ⟨b, 0, none⟩ = some (.int .i64 (p : Int)) ∧ w.cell? ⟨b, 1, none⟩ = some (.slice (some ⟨g, 0, none⟩) bs.length c) ∧ bs.length ≤ c ∧ c ≤ maxLen ∧ Rd w (some ⟨g, 0, none⟩) bs := by
  obtain ⟨c, h3, h4, h5⟩ := h.ob
  have c0 := h3.cell 0
  have c1 := h3.cell 1
  simp at c0 c1
  obtain ⟨a, c', hv, h6, _, h7⟩ := h4.form
  simp only [Value.slice.injEq] at hv
  obtain ⟨rfl, _, rfl⟩ := hv
  exact ⟨c, c0, c1, h6, h5, h7.rd⟩

set_option maxHeartbeats 400000 in
theorem bits_c (b g : Nat) (bs : List UInt8) (p : Nat) (w : World) (h : Fil w b g bs p) (hn : bs.length ≤ 1000000000) :
    Calls Tryz.prog 86 #[.pointer (some ⟨b, 0, none⟩)] w fun e w' => e = .returned (.int .i64 ((8 * bs.length : Nat) : Int)) ∧ w = w' := by
  obtain ⟨c, c0, c1, _, _, _⟩ := h.cells
  clear h
  generalize bs.length = N at *
  go_enter Tryz.func86, Tryz.ntmps86
  go_wp2_with fail
  go_ret
  exact ⟨congrArg (fun x => Ending.returned (.int .i64 x)) (by omega), rfl⟩
set_option maxHeartbeats 400000 in
theorem probes_c (b g : Nat) (bs : List UInt8) (p : Nat) (w : World) (h : Fil w b g bs p) :
    Calls Tryz.prog 119 #[.pointer (some ⟨b, 0, none⟩)] w fun e w' => e = .returned (.int .i64 (p : Int)) ∧ w = w' := by
  obtain ⟨c, c0, c1, _, _, _⟩ := h.cells
  clear h
  go_enter Tryz.func119, Tryz.ntmps119
  go_wp2_with fail
  go_ret
  exact ⟨rfl, rfl⟩
set_option maxHeartbeats 800000 in
theorem bit_c (i : Nat) (w : World) (hi : i ≤ 1000000000000) : Calls Tryz.prog 87 #[.int .i64 (i : Int)] w fun e w' => e = .returned (.int .u8 ((2 ^ (i % 8) : Nat) : Int)) ∧ w = w' := by
  have h : i % 8 = 0 ∨ i % 8 = 1 ∨ i % 8 = 2 ∨ i % 8 = 3 ∨ i % 8 = 4 ∨ i % 8 = 5 ∨ i % 8 = 6 ∨ i % 8 = 7 := by omega
  rcases h with h | h | h | h | h | h | h | h
  all_goals
    rw [h]
    have h8 : (i : Int) % 8 = ((i % 8 : Nat) : Int) := by omega
    rw [h] at h8
    clear h
    go_enter Tryz.func87, Tryz.ntmps87
    go_wp2_with fail
    go_ret
    exact ⟨rfl, rfl⟩
set_option maxHeartbeats 400000 in
theorem rightP_c (n : Int) (w : World) (h0 : -9223372036854775808 ≤ n) (h1 : n ≤ 9223372036854775807) : Calls Tryz.prog 117 #[.int .i64 n] w fun e w' => e = .returned (.bool (decide (1 ≤ n) && decide (n ≤ 30))) ∧ w = w' := by
  rcases Int.lt_or_le n 1 with h | h
  · have d1 : decide (1 ≤ n) = false := decide_eq_false (by omega)
    rw [d1]
    go_enter Tryz.func117, Tryz.ntmps117
    go_wp2_with fail
    go_ret
    exact ⟨rfl, rfl⟩
  · have d1 : decide (1 ≤ n) = true := decide_eq_true (by omega)
    rw [d1, Bool.true_and]
    go_enter Tryz.func117, Tryz.ntmps117
    go_wp2_with fail
    go_ret
    exact ⟨rfl, rfl⟩
end Go.Proofs.YtlobnbbndkhcbaaGreatDoor

/- The iterator over a key's probes: probesOf and the function that it hands back. -/
namespace Go.Proofs.YtlobnbbndkhcbaaGreatDoor
set_option linter.unusedVariables false
open Go.RowKit Go.Shelf
attribute [local go_sem] Oper.semAt_some

theorem or_one (M D : Nat) (hM : M < 4294967296) (h : (M % 2 = 0 ∧ D = M + 1) ∨ (¬ M % 2 = 0 ∧ D = M)) : bits .or .u32 (M : Int) 1 = (D : Int) ∧ D < 4294967296 := by
  have e := u32_or (M : Int) 1 (by omega) (by omega) (by omega) (by omega)
  have e2 : M ||| 1 = 2 * (M / 2) + 1 := by
    apply Nat.eq_of_testBit_eq
    intro i
    cases i with
    | zero => simp
    | succ i =>
      rw [Nat.testBit_or, Nat.testBit_succ, Nat.testBit_succ, Nat.testBit_succ]
      have : (2 * (M / 2) + 1) / 2 = M / 2 := by omega
      rw [this]
      simp
  rw [e, Int.toNat_natCast, show (1 : Int).toNat = 1 from rfl, e2]
  omega
set_option maxRecDepth 100000 in
set_option maxHeartbeats 2000000 in
theorem probes1_in (n : Nat) (hn : 1 ≤ n) (y B1 B2 B3 B4 : Nat) (T : Nat → Prop) (l : List UInt8) (m c : Nat) (hm : 0 < m) (hm2 : m ≤ 1000000000) (hc : c ≤ 64) (J Jx : List Int → World → Prop)
    (hY : ∀ pre x W, J pre W → pre.length < c → YieldAt Fence.wide (n - 1) Tryz.prog y #[.int .i64 x] W fun e W' =>
      (e = .returned (.bool true) ∧ J (pre ++ [x]) W' ∧ Fr T W W') ∨ (e = .returned (.bool false) ∧ Jx (pre ++ [x]) W'))
    (W : World) (b3 : ¬ T B3) (b4 : ¬ T B4) (c1 : W.cell? ⟨B1, 0, none⟩ = some (.int .u32 ((pA l : Nat) : Int))) (c2 : W.cell? ⟨B2, 0, none⟩ = some (.int .i64 (c : Int))) (c3 : W.cell? ⟨B3, 0, none⟩ = some (.int .i64 (m : Int))) (c4 : W.cell? ⟨B4, 0, none⟩ = some (.int .u64 ((pD l : Nat) : Int))) (h0 : J [] W) :
    CallsIn Fence.wide n Tryz.prog 120 #[.func (.yield y) #[] #[], .pointer (some ⟨B1, 0, none⟩), .pointer (some ⟨B2, 0, none⟩), .pointer (some ⟨B3, 0, none⟩), .pointer (some ⟨B4, 0, none⟩)] W fun e W' => (∃ v, e = .returned v) ∧
      ((∃ ys, ys = placesI l m c ∧ J ys W') ∨ (∃ pre, pre <+: placesI l m c ∧ Jx pre W')) := by
  have hA := pA_lt l
  have hD := pD_lt l
  have HS := Lib.hid (placesI_succ l m)
  have HP := Lib.hid (show ∀ i, i ≤ 64 → i * pD l ≤ 64 * 4294967297 from fun i hi => Nat.mul_le_mul hi (Nat.le_of_lt hD))
  generalize pA l = A at *
  generalize pD l = D at *
  refine callsIn_of_wp Tryz.func120 rfl trivial ?_ rfl
  simp only [Tryz.ntmps120, List.size_toArray, List.length_cons, List.length_nil, Nat.reduceAdd, Nat.reduceSub, Array.replicate_succ, Array.replicate_zero, List.push_toArray, List.append_toArray, List.nil_append, List.cons_append]
  gi_wp2
  gi_loopw [6, 10] (fun u i wr => ∃ k p : Nat, i = .int .i64 k ∧ k ≤ c ∧ u = .int .u64 ((A : Int) + (p : Int)) ∧ p = k * D ∧ J (placesI l m k) wr ∧ Fr T W wr) (fun _ i _ => c - (intOf i).toNat)
  case atStart => exact ⟨0, 0, rfl, Nat.zero_le _, rfl, by simp, h0, Fr.refl _ _⟩
  case round =>
    obtain ⟨k, p, rfl, hk, rfl, hp, hJ, hb⟩ := hrel
    have c3' := hb.cell (p := ⟨B3, 0, none⟩) c3 b3
    have c4' := hb.cell (p := ⟨B4, 0, none⟩) c4 b4
    by_cases h1 : k < c
    · have hps := HP.out k (by omega)
      have hp64 : p ≤ 64 * 4294967297 := by omega
      have hst := HS.out k
      rw [← hp] at hst
      have ec : (((A + p) % m : Nat) : Int) = ((A : Int) + (p : Int)) % (m : Int) := by simp
      have hlt : ((A : Int) + (p : Int)) % (m : Int) < m := Int.emod_lt_of_pos _ (by omega)
      have hge : 0 ≤ ((A : Int) + (p : Int)) % (m : Int) := Int.emod_nonneg _ (by omega)
      have hlen : (placesI l m k).length < c := by rw [placesI_length]; exact h1
      have HPk := Lib.hid hp
      clear hp hps
      obtain ⟨fn, tmps, assign, body, hy, hR⟩ := hY (placesI l m k) (((A : Int) + (p : Int)) % (m : Int)) wr hJ hlen
      gi_wp2
      refine hR.mono ?_
      rintro e W3 (⟨rfl, hJ3, hk3⟩ | ⟨rfl, hJx3⟩)
      · rw [← ec, ← hst] at hJ3
        have c4'' := hk3.cell (p := ⟨B4, 0, none⟩) c4' b4
        gi_wp2
        go_roundw
        case rel => exact ⟨k + 1, p + D, by simp, by omega, by simp; omega, by rw [HPk.out, Nat.succ_mul], hJ3, hb.trans hk3⟩
        case measure => simp [intOf]; omega
      · rw [← ec, ← hst] at hJx3
        gi_wp2
        refine bodyPost_ret (results_none rfl _ _ _) rfl ?_
        exact ⟨⟨_, rfl⟩, .inr ⟨_, ⟨(placesI l m c).drop (k + 1), by rw [show placesI l m (k + 1) = (placesI l m c).take (k + 1) from by unfold placesI; rw [← List.map_take, places_take l m c (k + 1) (by omega)], List.take_append_drop]⟩, hJx3⟩⟩
    · have hkc : k = c := by omega
      subst hkc
      gi_wp2
      go_end0
      exact ⟨⟨_, rfl⟩, .inl ⟨_, rfl, hJ⟩⟩

/-- probesOf hands back a value that stops. -/
theorem probesOf_c (a : Option Addr) (len cap : Nat) (l : List UInt8) (m c : Int) (w : World) (hl : l.length = len) (hlm : len ≤ 1000000) (hr : Rd w a l) (ht : Tab w) :
    Calls Tryz.prog 85 #[.slice a len cap, .int .i64 m, .int .i64 c] w fun e w' =>
      e = .returned (.func (.func 120) #[] #[.pointer (some ⟨w.heap.size + 2, 0, none⟩), .pointer (some ⟨w.heap.size + 1, 0, none⟩), .pointer (some ⟨w.heap.size, 0, none⟩), .pointer (some ⟨w.heap.size + 3, 0, none⟩)]) ∧
      Fr No w w' ∧ w'.cell? ⟨w.heap.size, 0, none⟩ = some (.int .i64 m) ∧ w'.cell? ⟨w.heap.size + 1, 0, none⟩ = some (.int .i64 c) ∧ w'.cell? ⟨w.heap.size + 2, 0, none⟩ = some (.int .u32 ((pA l : Nat) : Int)) ∧ w'.cell? ⟨w.heap.size + 3, 0, none⟩ = some (.int .u64 ((pD l : Nat) : Int)) ∧ w'.heap.size = w.heap.size + 4 := by
  have f1 := (Fr.refl No w).alloc (.cells #[.int .i64 m] 3)
  have f2 := f1.alloc (.cells #[.int .i64 c] 3)
  have C1 : Calls Tryz.prog 110 #[.slice a len cap] ((w.alloc (.cells #[.int .i64 m] 3)).alloc (.cells #[.int .i64 c] 3)) fun e w' => e = .returned (.int .u32 ((pA l : Nat) : Int)) ∧ ((w.alloc (.cells #[.int .i64 m] 3)).alloc (.cells #[.int .i64 c] 3)) = w' := of_c a len cap l _ hl (by omega) (hr.keep f2) (fun i hi => f2.cell (ht i hi) (fun h => h))
  have hA := pA_lt l
  have C2 := fun w => mask_c ((pA l : Nat) : Int) w (by omega) (by omega)
  rw [mk_nat] at C2
  have hM := mkN_lt (pA l)
  have hD := pD_lt l
  have hor := or_one (mkN (pA l)) (pD l) hM (by
    unfold pD
    by_cases h : mkN (pA l) % 2 = 0
    · exact .inl ⟨h, if_pos h⟩
    · exact .inr ⟨h, if_neg h⟩)
  obtain ⟨hor, hD2⟩ := hor
  generalize pA l = A at *
  generalize pD l = D at *
  generalize mkN A = M at *
  have HC1 := Lib.hid C1
  have HC2 := Lib.hid C2
  clear hr ht hl C1 C2 f1 f2
  go_enter Tryz.func85, Tryz.ntmps85
  go_wp2_with fail
  refine (show Calls _ _ _ _ _ from HC1.out).mono ?_
  rintro e w1 ⟨rfl, rfl⟩
  go_wp2_with fail
  refine (HC2.out _).mono ?_
  rintro e w1 ⟨rfl, rfl⟩
  go_wp2_with fail
  go_ret
  refine ⟨rfl, ((((Fr.refl No w).alloc _).alloc _).alloc _).alloc _, ?_, ?_, ?_, ?_, by simp⟩
  · exact (((At.new' w _ _ rfl).alloc _).alloc _).alloc _ |>.cell 0
  · exact ((At.new' (w.alloc _) _ _ (by simp)).alloc _).alloc _ |>.cell 0
  · exact (At.new' ((w.alloc _).alloc _) _ _ (by simp)).alloc _ |>.cell 0
  · exact (At.new' (((w.alloc _).alloc _).alloc _) _ _ (by simp)) |>.cell 0
theorem probes_stops (n : Nat) (hn : 1 ≤ n) (B1 B2 B3 B4 : Nat) (T : Nat → Prop) (l : List UInt8) (m c : Nat) (hm : 0 < m) (hm2 : m ≤ 1000000000) (hc : c ≤ 64) (w : World)
    (b3 : ¬ T B3) (b4 : ¬ T B4) (c1 : w.cell? ⟨B1, 0, none⟩ = some (.int .u32 ((pA l : Nat) : Int))) (c2 : w.cell? ⟨B2, 0, none⟩ = some (.int .i64 (c : Int))) (c3 : w.cell? ⟨B3, 0, none⟩ = some (.int .i64 (m : Int))) (c4 : w.cell? ⟨B4, 0, none⟩ = some (.int .u64 ((pD l : Nat) : Int))) :
    SeqStopsK Fence.wide n Tryz.prog 120 #[.pointer (some ⟨B1, 0, none⟩), .pointer (some ⟨B2, 0, none⟩), .pointer (some ⟨B3, 0, none⟩), .pointer (some ⟨B4, 0, none⟩)] (fun x : Int => #[Value.int .i64 x]) (Fr T) (fun ys => ys = placesI l m c) (fun pre => pre <+: placesI l m c) c w :=
  fun y J Jx W hW _ _ hY h0 => by
    have k : ∀ {p : Addr} {v : Value}, w.cell? p = some v → W.cell? p = some v := fun h => (hW.cell (cell_block h)).trans h
    exact probes1_in n hn y B1 B2 B3 B4 T l m c hm hm2 hc J Jx hY W b3 b4 (k c1) (k c2) (k c3) (k c4) h0
end Go.Proofs.YtlobnbbndkhcbaaGreatDoor
