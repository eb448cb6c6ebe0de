/-
  Texts of layer 14 and of what it stands on, one behind the other.
-/
import Derived.Test.YtihahckjcedceaaDoorMg14
import Derived.Test.YtihahckjcedceaaDoorMg16
import Derived.Test.YtihahckjcedceaaDoorMg09

/- Layer 9: contracts of sumOf, Frame, Size, bytes.Equal. -/
namespace Go.Proofs.YtihahckjcedceaaDoor
set_option linter.unusedVariables false
open Go.RowKit

theorem wordL_cells (c : Int) (h0 : 0 ≤ c) (h1 : c < 4294967296) : ((wordL c).map byt).toArray = #[Value.int .u8 (c / 16777216), Value.int .u8 (c / 65536 % 256), Value.int .u8 (c / 256 % 256), Value.int .u8 (c % 256)] := by
  have e : ∀ x : Int, 0 ≤ x → x < 256 → byt (byteOf x) = .int .u8 x := fun x hx hy => by
    show Value.int .u8 _ = _
    rw [byteOf_nat]
    simp [Lit.wf, IntKind.min, IntKind.max, IntKind.signed, IntKind.bits]
    omega
  unfold wordL
  simp only [List.map_cons, List.map_nil]
  rw [e _ (by omega) (by omega), e _ (by omega) (by omega), e _ (by omega) (by omega), e _ (by omega) (by omega)]
set_option maxHeartbeats 400000 in
theorem word_n (c : Int) (h0 : 0 ≤ c) (h1 : c < 4294967296) (w : World) : Calls Tryd.prog 89 #[.int .u32 c] w (NewRow (wordL c) w) := by
  have E := Lib.hid (wordL_cells c h0 h1)
  have R := Lib.hid (row_new w (wordL c) (by rw [wordL_length]; simp [maxLen]))
  have h2 : c / 16777216 % 256 = c / 16777216 := by omega
  have F := Lib.hid ((Fr.refl No w).alloc (.cells ((wordL c).map byt).toArray 5))
  go_enter Tryd.func89, Tryd.ntmps89
  go_wp2_with fail
  go_ret
  have R := R.out
  have F := F.out
  rw [E.out] at R F
  exact ⟨_, rfl, R, F⟩
set_option maxHeartbeats 400000 in
theorem sumOf_c (a : Option Addr) (len cap : Nat) (l : List UInt8) (w : World) (hl : l.length = len) (hm : len ≤ 140737488351232) (hr : Rd w a l) (ht : Tab w) :
    Calls Tryd.prog 78 #[.slice a len cap] w (NewRow (wordL (sumW l)) w) := by
  have H1 := Lib.hid (of_c a len cap l w hl hm hr ht)
  have hlt := bv_lt (Crc.of l)
  have H2 := Lib.hid (mask_c ((Crc.of l).toNat : Int) w (by omega) (by omega))
  have hs := sumW_range l
  have H3 := Lib.hid (word_n (sumW l) hs.1 hs.2 w)
  have HE : Hid (mk ((Crc.of l).toNat : Int) = sumW l) := Lib.hid rfl
  clear hl hr ht
  rw [HE.out] at H2
  generalize sumW l = s at *
  generalize (Crc.of l).toNat = c at *
  generalize wordL s = R at *
  go_enter Tryd.func78, Tryd.ntmps78
  go_wp2_with fail
  refine (show Calls _ _ _ _ _ from H1.out).mono ?_
  rintro e w' ⟨rfl, rfl⟩
  go_wp2_with fail
  refine (show Calls _ _ _ _ _ from H2.out).mono ?_
  rintro e w' ⟨rfl, rfl⟩
  go_wp2_with fail
  refine (show Calls _ _ _ _ _ from H3.out).mono ?_
  rintro e w' ⟨v, rfl, h1, h2⟩
  go_wp2_with fail
  go_ret
  exact ⟨v, rfl, h1, h2⟩
theorem Tab.keep {w w' : World} {S : Nat → Prop} (h : Tab w) (f : Fr S w w') (hS : ¬ S 0) : Tab w' := fun i hi => f.cell (h i hi) hS
set_option maxRecDepth 20000 in
set_option maxHeartbeats 400000 in
theorem frame_c (a : Option Addr) (len cap : Nat) (l : List UInt8) (w : World) (hl : l.length = len) (hm : len ≤ 100000000000) (hr : Rd w a l) (ht : Tab w) :
    Calls Tryd.prog 60 #[.slice a len cap] w (NewRow (frameL l) w) := by
  obtain ⟨W0, hW0⟩ : ∃ W, w.alloc (.cells #[.slice none 0 0, .bool false] 75) = W := ⟨_, rfl⟩
  have f0 : Fr No w W0 := by rw [← hW0]; exact (Fr.refl No w).alloc _
  have wr0 : Wr W0 w.heap.size No [] false := by rw [← hW0]; exact Wr.new w
  have s0 : W0.heap.size = w.heap.size + 1 := by rw [← hW0]; simp
  have HC := Lib.hid (wtext_c a len cap l W0 w.heap.size No [] false wr0 hl (by simp; omega) (((In.of_rd hr).keep f0 (fun _ _ h => h)).sub fun k _ hk => ⟨fun h => by have h2 : k < w.heap.size := hk; omega, fun h => h⟩))
  rw [List.nil_append] at HC
  have HT := Lib.hid ht
  have HF0 := Lib.hid f0
  have hbl : (bodyL l).length ≤ 100000000009 := by
    unfold bodyL
    rw [List.length_append]
    have := enc_len9 (show l.length < 9223372036854775808 by omega)
    omega
  have HB : Hid (enc len ++ l = bodyL l) := Lib.hid (by unfold bodyL; rw [hl])
  rw [HB.out] at HC
  have HFL : Hid (wordL (sumW (bodyL l)) ++ bodyL l = frameL l) := Lib.hid rfl
  clear hl hr ht f0 wr0
  generalize bodyL l = B at *
  go_enter Tryd.func60, Tryd.ntmps60
  go_wp2_with fail
  refine (show Calls _ _ _ _ _ from HC.out).mono ?_
  rintro e w1 ⟨rfl, h1, h2⟩
  have HC2 := Lib.hid (wbytes_c w1 w.heap.size _ B h1 (by omega))
  have HF1 : Hid (Fr No w w1) := Lib.hid (HF0.out.then_ h2 fun k hk h => h.elim (fun h => by have h : k = w.heap.size := h; omega) fun h => h.elim)
  clear h1 h2 HC
  go_wp2_with fail
  refine (show Calls _ _ _ _ _ from HC2.out).mono ?_
  rintro e w2 ⟨a2, c2, rfl, g1, g2, g3, g4⟩
  have HF2 : Hid (Fr No w w2) := Lib.hid (HF1.out.trans g4)
  obtain ⟨n, hn⟩ : ∃ n, B.length = n := ⟨_, rfl⟩
  obtain ⟨_, _, e2, _, _, i2⟩ := g3.form
  obtain ⟨rfl, _, rfl⟩ := Value.slice.inj e2
  rw [hn] at g1 g3 hbl
  rw [hn]
  have ht2 := HT.out.keep HF2.out (fun h => h)
  have HC3 := Lib.hid (sumOf_c a2 n c2 B w2 hn (by omega) i2.rd ht2)
  have HI := Lib.hid i2
  have HN := Lib.hid hn
  clear HC2 g3 g4 ht2 i2 e2 hn
  go_wp2_with fail
  refine (show Calls _ _ _ _ _ from HC3.out).mono ?_
  rintro e w3 ⟨v, rfl, r3, f3⟩
  obtain ⟨v', W, hrun, hrow, hfr⟩ := r3.append a2 n c2 B HN.out ((HI.out.keep f3 (fun k _ h => h)).rd) (by rw [wordL_length]; omega)
  have HRUN := Lib.hid hrun
  rw [HFL.out] at hrow
  have HR : Hid (NewRow (frameL l) w (.returned v') W) := Lib.hid ⟨v', rfl, (hrow.join f3.size hfr.size).sub (fun k _ h => h.elim (fun h => h.elim) fun h => .inr ⟨Nat.le_trans HF2.out.size h.1, h.2⟩),
    (HF2.out.trans f3).then_ hfr fun k hk h => h.elim (fun h => h.elim) fun h => by have := HF2.out.size; omega⟩
  clear hrun hrow hfr r3 f3 HC3 HI HT HF0 HF1 HF2
  go_wp2_with (at_builtin; refine wpList_append_run rfl _ _ 51 rfl rfl rfl HRUN.out ?_)
  go_ret
  exact HR.out
set_option maxHeartbeats 400000 in
theorem fsize_c (n : Nat) (w : World) (h : n ≤ 100000000000) : Calls Tryd.prog 23 #[.int .i64 (n : Int)] w fun e w' => e = .returned (.int .i64 (sizeL n : Int)) ∧ w = w' := by
  have HC := Lib.hid (size_c n w (by omega))
  have HS : Hid (sizeL n = 4 + (enc n).length + n) := Lib.hid rfl
  have h9 := enc_len9 (show n < 9223372036854775808 by omega)
  generalize sizeL n = S at *
  generalize (enc n).length = E at *
  go_enter Tryd.func23, Tryd.ntmps23
  go_wp2_with fail
  refine (show Calls _ _ _ _ _ from HC.out).mono ?_
  rintro e w' ⟨rfl, rfl⟩
  go_wp2_with fail
  go_ret
  refine ⟨?_, rfl⟩
  rw [HS.out]
  simp
set_option maxHeartbeats 400000 in
theorem fsize_neg (n : Int) (w : World) (h : n < 0) : Calls Tryd.prog 23 #[.int .i64 n] w fun e w' => e = .returned (.int .i64 0) ∧ w = w' := by
  go_enter Tryd.func23, Tryd.ntmps23
  go_wp2_with fail
  go_ret
  exact ⟨rfl, rfl⟩
set_option maxHeartbeats 400000 in
theorem equal_c (a a' : Option Addr) (len cap len' cap' : Nat) (l l' : List UInt8) (w : World) (hl : l.length = len) (hl' : l'.length = len') (hr : Rd w a l) (hr' : Rd w a' l') :
    Calls Tryd.prog 86 #[.slice a len cap, .slice a' len' cap'] w fun e w' => e = .returned (.bool (l == l')) ∧ w = w' := by
  have h1 := conv_rd w a len cap l hl hr
  have h2 := conv_rd w a' len' cap' l' hl' hr'
  have t1 := strOf_toList l
  have t2 := strOf_toList l'
  clear hl hl' hr hr'
  go_enter Tryd.func86, Tryd.ntmps86
  go_wp2_with fail
  go_ret
  exact ⟨rfl, rfl⟩
end Go.Proofs.YtihahckjcedceaaDoor
