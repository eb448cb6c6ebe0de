/-
  Layer 9: the statements' fixed answer; the walk of the statement ReclogFrames.
-/
import Derived.Test.YtcekgalppbfnhaaDoorRlF
import Derived.Lib.SlBytesConst
namespace Go.Proofs.YtcekgalppbfnhaaDoor
set_option linter.unusedVariables false
open Go.RowKit

theorem In.new (w : World) (C : Array Value) (t : TypeId) (fr : Nat × Nat) (l : List UInt8) (hC : C = (l.map byt).toArray) : In (w.alloc (.cells C t fr)) (One w.heap.size) (some ⟨w.heap.size, 0, none⟩) l := fun hl => by
  subst hC
  refine ⟨_, _, rfl, rfl, fun i hi => ?_⟩
  rw [Nat.zero_add, cell_of_row _ _ i _ t fr (heap_alloc_new w _)]
  simp [List.getD, hi]
theorem Ask.post {w : World} {e : Ending} {w' : World} (h : Ask (.bool true) w e w') : e = .returned (.bool true) ∧ Below w.heap.size w w' := ⟨h.1, h.2.below (Nat.le_refl _) (fun _ h => h.elim)⟩
theorem NewRow.from {l : List UInt8} {w w1 : World} {e : Ending} {w' : World} (f : Fr No w w1) (h : NewRow l w1 e w') : NewRow l w e w' := by
  obtain ⟨v, h1, h2, h3⟩ := h
  exact ⟨v, h1, h2.sub fun k _ hk => hk.elim (fun h => h.elim) fun h => .inr ⟨Nat.le_trans f.size h.1, h.2⟩, f.trans h3⟩
theorem frame_x (w : World) (fr : Nat × Nat) (ht : Tab w) : Calls Tryd.prog 10 #[.slice (some ⟨w.heap.size, 0, none⟩) 3 3] (w.alloc (.cells #[.int .u8 97, .int .u8 98, .int .u8 99] 5 fr)) (NewRow (frameL [97, 98, 99]) w) := by
  have f := (Fr.refl No w).alloc (.cells #[.int .u8 97, .int .u8 98, .int .u8 99] 5 fr)
  exact (frame_c (some ⟨w.heap.size, 0, none⟩) 3 3 [97, 98, 99] _ rfl (by omega) (In.new w #[.int .u8 97, .int .u8 98, .int .u8 99] 5 fr [97, 98, 99] rfl).rd (ht.keep f (fun h => h))).mono fun e w' h => h.from f
theorem one_of {xs : List Tx} {l : List UInt8} (h : xs.map Tx.b = [l]) : ∃ x, xs = [x] ∧ x.b = l := by
  rcases xs with _ | ⟨x, _ | ⟨y, ys⟩⟩
  · cases h
  · exact ⟨x, rfl, by simpa using h⟩
  · cases h
theorem frame_abc : (frameL [97, 98, 99]).length = 8 := by
  rw [frameL_length]
  unfold sizeL
  rw [enc_len_small (by decide)]
  rfl
theorem scan_abc : scanL (frameL [97, 98, 99] ++ [1]) = [[97, 98, 99]] := scanL_eq (by rw [List.length_append, frame_abc]; decide) ⟨[1], by
  show frameL [97, 98, 99] ++ [1] = (frameL [97, 98, 99] ++ []) ++ [1]
  rw [List.append_nil], headF_short (by decide)⟩
theorem size200 : sizeL 200 = 206 := by
  unfold sizeL
  rw [enc_len_big (by decide), enc_len_small (by decide)]
set_option maxRecDepth 20000 in
set_option maxHeartbeats 1600000 in
theorem awake9_c (w : World) (ht : Tab w) : Calls Tryd.prog 9 #[] w (Ask (.bool true) w) := by
  have HT := Lib.hid ht
  have kc := fun (w : World) (C : Array Value) (n c : Nat) => Lib.run_convert_bytes_const (P := Tryd.prog) w 22 5 C n c Tryd.underlying22 Tryd.underlying5
  have HLEN := Lib.hid frame_abc
  have HSC := Lib.hid scan_abc
  have HSZ : Hid (∀ w, Calls Tryd.prog 14 #[.int .i64 200] w fun e w' => e = .returned (.int .i64 206) ∧ w = w') := Lib.hid (fun w => by
    have q := fsize_c 200 w (by omega)
    rw [size200] at q
    exact q)
  have C1 := Lib.hid (frame_x w (3, 4) ht)
  have T1 := strOf_toList [97, 98, 99]
  clear ht
  generalize frameL [97, 98, 99] = fx at *
  go_enter Tryd.func9, Tryd.ntmps9
  go_wp2_with fail
  refine (show Calls _ _ _ _ _ from C1.out).mono ?_
  rintro e w1 ⟨v, rfl, hrow, hf⟩
  obtain ⟨v2, w2, hrun, hrow2, hf2⟩ := hrow.push (fun k hk => hk.elim (fun h => h.elim) fun h => h.2) 1 (by rw [HLEN.out]; omega)
  obtain ⟨fa, fc, rfl, f1, f2, _⟩ := hrow.form
  obtain ⟨va, vc, rfl, g1, g2, gin⟩ := hrow2.form
  have hl9 : (fx ++ [1]).length = 9 := by rw [List.length_append, HLEN.out]; rfl
  rw [hl9] at g1 hrun hrow2
  rw [HLEN.out] at f1 hrun
  rw [HLEN.out]
  have HF2 : Hid (Fr No w w2) := Lib.hid (hf.then_ hf2 fun k hk h => Gr.old hk h)
  have C2 := Lib.hid (scan_c va 9 vc (fx ++ [1]) w2 hl9 (by omega) g1 gin.rd (HT.out.keep HF2.out (fun h => h)))
  have HRUN := Lib.hid hrun
  clear hrow hf hrun hrow2 hf2 gin C1 hl9
  go_wp2_with (at_builtin; refine wpList_append_run rfl _ _ 22 rfl rfl rfl HRUN.out ?_)
  refine (show Calls _ _ _ _ _ from C2.out).mono ?_
  rintro e w3 ⟨v3, xs, rfl, htx, hxs, hf3⟩
  rw [HSC.out] at hxs ⊢
  obtain ⟨xx, rfl, hxb⟩ := one_of hxs
  obtain ⟨ra, rc, rfl, r1, r2, hrec⟩ := htx.texts
  obtain ⟨rb, ro, rfl, hat⟩ := hrec (Nat.zero_lt_succ _)
  have hat := hat 0 xx rfl
  have c0 := hat.c0
  have hrd := hat.rd
  rw [hxb] at c0 hrd
  have hcv := conv_rd w3 xx.a 3 xx.c [97, 98, 99] rfl hrd
  have hone : (framesL [[97, 98, 99]]).length = 8 := by
    show (frameL [97, 98, 99] ++ []).length = 8
    rw [List.append_nil, frame_abc]
  rw [hone]
  have HF3 := Lib.hid (HF2.out.trans hf3)
  clear htx hrec hat hrd hf3 C2 hone hxb HF2 HT
  generalize xx.a = xa at *
  generalize xx.c = xc at *
  clear HSC HLEN hxs
  simp only [List.length_cons, List.length_nil, Nat.zero_add, Nat.add_zero] at c0 r1 ⊢
  go_wp2_with fail
  refine (show Calls _ _ _ _ _ from HSZ.out _).mono ?_
  rintro e w4 ⟨rfl, rfl⟩
  go_wp2_with fail
  go_ret
  exact ⟨rfl, HF3.out⟩
end Go.Proofs.YtcekgalppbfnhaaDoor
