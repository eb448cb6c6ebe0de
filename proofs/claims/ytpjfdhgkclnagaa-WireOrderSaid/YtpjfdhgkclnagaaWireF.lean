/-
  What the statements of layer 2 use besides: their fixed answer, and the bound on items.
-/
import Derived.Test.YtpjfdhgkclnagaaWireE
import Derived.Lib.SlBytesConst
namespace Go.Proofs.Ytpjfdhgkclnagaa
set_option linter.unusedVariables false
open Go.RowKit

theorem enc300 : enc 300 = [172, 2] := by
  rw [enc_big (by decide), enc_small (by decide)]
  rfl
theorem enc1 : enc 1 = [1] := by rw [enc_small (by decide)]; rfl
theorem num300 : numS ([172, 2], false) = (300, ([], false)) := by decide
theorem done0 : doneI ([], false) = 0 := by decide
theorem In.new (w : World) (C : Array Value) (t : TypeId) (fr : Nat × Nat) (l : List UInt8) (hC : C = (l.map byt).toArray) : In (w.alloc (.cells C t fr)) (One w.heap.size) (some ⟨w.heap.size, 0, none⟩) l := fun hl => by
  subst hC
  refine ⟨_, _, rfl, rfl, fun i hi => ?_⟩
  rw [Nat.zero_add, cell_of_row _ _ i _ t fr (heap_alloc_new w _)]
  simp [List.getD, hi]

set_option maxRecDepth 20000 in
set_option maxHeartbeats 800000 in
theorem awake_c (w : World) : Calls Try.prog 10 #[] w fun e w' => e = .returned (.bool true) ∧ Fr No w w' := by
  have f0 := (Fr.refl No w).alloc (.cells #[.slice none 0 0, .bool false] 27)
  have C1 := wnum_c 300 _ _ No [] false (Wr.new w) (by decide) (by decide)
  rw [enc300, List.nil_append, show ((300 : Nat) : Int) = 300 from rfl] at C1
  have C1 := Lib.hid C1
  have CS : ∀ w, Calls Try.prog 28 #[.int .i64 300] w fun e w' => e = .returned (.int .i64 2) ∧ w = w' := fun w => by
    have h := size_c 300 w (by decide)
    rw [enc300] at h
    exact h
  have CS := Lib.hid CS
  have F0 := Lib.hid f0
  clear f0
  go_enter Try.func10, Try.ntmps10
  go_wp2_with fail
  refine (show Calls _ _ _ _ _ from C1.out).mono ?_
  rintro e w1 ⟨rfl, h1, h2⟩
  have F1 := Lib.hid (F0.out.then_ h2 fun k hk h => h.elim (fun h => by have : k = w.heap.size := h; omega) fun h => h)
  have H1 := Lib.hid h1
  clear F0 h1 h2 C1
  generalize hB : w.heap.size = B at *
  have HB := Lib.hid hB
  have hB1 := H1.out.lt
  clear hB
  have kc := fun (w : World) (C : Array Value) (n c : Nat) => Lib.run_convert_bytes_const (P := Try.prog) w 25 5 C n c Try.underlying25 Try.underlying5
  go_wp2_with fail
  clear kc
  have f1 := (Fr.refl No w1).alloc (.cells #[.int .u8 120] 5 (1, 2))
  have h1' := H1.out.keep f1 (fun h => h) (fun _ _ h => h)
  have C2 := wtext_c (some ⟨w1.heap.size, 0, none⟩) 1 1 [120] _ B _ _ false h1' rfl (by decide) ((In.new w1 #[.int .u8 120] 5 (1, 2) [120] rfl).sub fun k _ hk => by
    have : k = w1.heap.size := hk
    subst this
    exact ⟨by omega, fun h => by rcases h with h | h; exact h.elim; omega⟩)
  rw [enc1] at C2
  have F1' := Lib.hid (F1.out.then_ f1 fun _ _ h => h)
  have C2 := Lib.hid C2
  clear f1 h1' F1 H1
  refine (show Calls _ _ _ _ _ from C2.out).mono ?_
  rintro e w2 ⟨rfl, h2, f2⟩
  have F2 := Lib.hid (F1'.out.then_ f2 fun k hk h => by
    have := HB.out
    simp [Gr, Two, One, No] at h
    omega)
  have H2 := Lib.hid h2
  have C3 := Lib.hid (wbytes_c w2 B _ _ h2 (by decide))
  have hB2 := h2.lt
  clear h2 f2 C2 F1'
  go_wp2_with fail
  refine (show Calls _ _ _ _ _ from C3.out).mono ?_
  rintro e w3 ⟨a, cap, rfl, hc1, hc2, hrow, hfr⟩
  have F3 := Lib.hid (F2.out.then_ hfr fun _ _ h => h)
  obtain ⟨a', cap', hv, _, _, hin⟩ := hrow.form
  cases hv
  obtain ⟨b, o, hb, rfl, hcell⟩ := hin (by decide)
  have c0 : w3.cell? ⟨b, o, none⟩ = some (.int .u8 172) := hcell 0 (by decide)
  have hl : ([172, 2] ++ ([1] ++ [120]) : List UInt8).length = 4 := rfl
  rw [hl] at hc1 ⊢
  unfold maxLen at hc2
  clear hcell hin hrow hfr hl C3 H2
  go_wp2_with fail
  have f4 := (Fr.refl No w3).alloc (.cells #[.int .u8 172, .int .u8 2] 5)
  have C4 := Lib.hid (newr_c (some ⟨w3.heap.size, 0, none⟩) 2 2 [172, 2] _ rfl (by decide) (In.new w3 #[.int .u8 172, .int .u8 2] 5 (0, 0) [172, 2] rfl).rd)
  have F4 := Lib.hid (F3.out.then_ f4 fun _ _ h => h)
  have c1 := f4.cell c0 (fun h => h)
  clear c0 f4
  refine (show Calls _ _ _ _ _ from C4.out).mono ?_
  rintro e w4 ⟨R, S, rfl, hr, f5, hR1, hS1⟩
  have c2 := f5.cell c1 (fun h => h)
  have F5 := Lib.hid (F4.out.then_ f5 fun _ _ h => h)
  have hRb : b ≠ R := by
    have := cell_block c1
    simp at this hR1
    omega
  have C5 := rnum_c w4 R S _ hr
  rw [num300] at C5
  have C5 := Lib.hid C5
  have HR1 : Hid (w.heap.size ≤ R) := Lib.hid (by have := F3.out.size; simp at hR1; omega)
  clear c1 f5 hr hR1 hS1 C4
  go_wp2_with fail
  refine (show Calls _ _ _ _ _ from C5.out).mono ?_
  rintro e w5 ⟨rfl, hr, f6⟩
  have C6 := rdone_c w5 R S _ hr
  rw [done0] at C6
  have C6 := Lib.hid C6
  have F6 := Lib.hid (F5.out.then_ f6 fun k hk h => by
    have := HR1.out
    have : k = R := h
    omega)
  clear hr f6
  go_wp2_with fail
  refine (show Calls _ _ _ _ _ from C6.out).mono ?_
  rintro e w6 ⟨rfl, rfl⟩
  go_wp2_with fail
  refine (CS.out _).mono ?_
  rintro e w7 ⟨rfl, rfl⟩
  go_wp2_with fail
  go_ret
  exact ⟨rfl, F6.out⟩
end Go.Proofs.Ytpjfdhgkclnagaa
