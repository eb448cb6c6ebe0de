/-
  Texts of layer 13 on Fit, one behind the other.
-/
import Derived.Test.YtlobnbbndkhcbaaGreatDoorMyB

/- Layer 13, the program's own: how many bytes a table of a measure's pairs has; one more pair is measured. -/
namespace Go.Proofs.YtlobnbbndkhcbaaGreatDoor
set_option linter.unusedVariables false
set_option linter.unusedSimpArgs false
open Go.RowKit

/-- How many bytes a table has, of its data, its index, its count and its bits. -/
def tabZ (D : List UInt8) (I : List Pr) (k b : Nat) : Nat := D.length + (fblk 1 I).length + sizeL (1 + (max (k * b) 64 + 7) / 8) + 24
theorem wrap3 (a b c d : Int) (h0 : 0 ≤ a) (h1 : 0 ≤ b) (h2 : 0 ≤ c) (h3 : 0 ≤ d) (h : a + b + c + d ≤ 9223372036854775807) :
    IntKind.i64.wrap (IntKind.i64.wrap (IntKind.i64.wrap (a + b) + c) + d) = a + b + c + d := by
  rw [wrapIn (a + b) (by omega) (by omega), wrapIn (a + b + c) (by omega) (by omega), wrapIn _ (by omega) (by omega)]
theorem MAt.cells {w : World} {g : Nat} {o : Opt} {m : MV} (h : MAt w g o m) : w.cell? ⟨g, 0, none⟩ = some (.int .i64 o.b) ∧ w.cell? ⟨g, 1, none⟩ = some (.int .i64 o.e) ∧ w.cell? ⟨g, 2, none⟩ = some (.int .i64 o.n) ∧ w.cell? ⟨g, 3, none⟩ = some (.int .i64 (m.k : Int)) ∧ w.cell? ⟨g, 4, none⟩ = some (.int .i64 (m.d : Int)) ∧ w.cell? ⟨g, 5, none⟩ = some (.int .i64 1) ∧ w.cell? ⟨g, 6, none⟩ = some (.int .i64 (m.ic : Int)) ∧ w.cell? ⟨g, 7, none⟩ = some (.int .i64 (m.ib : Int)) ∧ w.cell? ⟨g, 8, none⟩ = some (.string m.il) ∧ w.cell? ⟨g, 9, none⟩ = some (.int .i64 o.e) ∧ w.cell? ⟨g, 10, none⟩ = some (.int .i64 (m.oc : Int)) ∧ w.cell? ⟨g, 11, none⟩ = some (.int .i64 (m.ob : Int)) ∧ w.cell? ⟨g, 12, none⟩ = some (.string m.ol) ∧ w.cell? ⟨g, 13, none⟩ = some (.int .i64 (m.f : Int)) := by
  have h' : At w g 112 (mcs o m) := h
  exact ⟨h'.cell 0, h'.cell 1, h'.cell 2, h'.cell 3, h'.cell 4, h'.cell 5, h'.cell 6, h'.cell 7, h'.cell 8, h'.cell 9, h'.cell 10, h'.cell 11, h'.cell 12, h'.cell 13⟩
set_option maxRecDepth 20000 in
set_option maxHeartbeats 1600000 in
theorem msize_c (w : World) (g : Nat) (o : Opt) (e b k : Nat) (D : List UInt8) (I G : List Pr) (f : Nat) (hat : MAt w g o (mOf e k D I G f)) (hoe : o.e = (e : Int)) (hon : o.n = (b : Int)) (he : 1 ≤ e) (he2 : e ≤ 64) (hb : b ≤ 32) (hk : k ≤ 100000)
    (hD : D.length ≤ 100000000000000) (hI : I.length ≤ 40000) (hG : G.length ≤ 40000) (hIl : Low 100000 I) (hGl : Low 100000 G) :
    Calls Tryz.prog 59 #[.pointer (some ⟨g, 0, none⟩)] w (PlainRet (.int .i64 ((if G.length = 0 then tabZ D I k b else tabZ (D ++ fblk e G) (I ++ [idxP (keyAt G G.length) D.length (fblk e G).length]) k b : Nat) : Int)) w) := by
  obtain ⟨c0, c1, c2, c3, c4, c5, c6, c7, c8, c9, c10, c11, c12, c13⟩ := hat.cells
  simp only [mOf] at c0 c1 c2 c3 c4 c5 c6 c7 c8 c9 c10 c11 c12 c13
  by_cases h0 : G.length = 0
  · rw [if_pos h0]
    have hIl2 := hIl
    have hI2 : I.length ≤ 40001 := by omega
    have hD2 : D.length ≤ 200000000000000 := by omega

    have HB := Lib.hid (szB_le 1 I 100000 (by omega) hIl2)
    have hib : szB 1 I ≤ 10000000000 := by
      have h1 := HB.out
      have h2 : (I).length * (31 + 2 * 100000) ≤ 40001 * (31 + 2 * 100000) := Nat.mul_le_mul_right _ hI2
      omega
    have hZ : tabZ D I k b = (D).length + sizeL (szB 1 I + 4 + 1) + sizeL (1 + (max (k * b) 64 + 7) / 8) + 24 := by unfold tabZ; rw [fblk_sz]
    rw [hZ]
    have hs1 := sizeL_le (n := szB 1 I + 4 + 1) (by omega)
    have hm : k * b ≤ 100000 * 32 := Nat.mul_le_mul hk hb
    have hs2 := sizeL_le (n := 1 + (max (k * b) 64 + 7) / 8) (by omega)
    have hs2' : sizeL (1 + (max (k * b) 64 + 7) / 8) ≤ 1000000 := by omega
    have CFR := Lib.hid (fun w' (m : MAt w' w.heap.size o (mOf e k D I G f)) => bframe_c w' w.heap.size 5 (szB 1 I) (show w'.cell? ⟨w.heap.size, 7, none⟩ = _ from m.cells.2.2.2.2.2.2.2.1) hib)
    have CFI := Lib.hid (fun w' (m : MAt w' w.heap.size o (mOf e k D I G f)) => mfilter_c w' w.heap.size k b m.cells.2.2.2.1 (by rw [← hon]; exact m.cells.2.2.1) hk hb)
    have hs1' : sizeL (szB 1 I + 4 + 1) ≤ 20000000000 := by omega
    obtain ⟨y1, hy1⟩ : ∃ y1, sizeL (szB 1 I + 4 + 1) = y1 := ⟨_, rfl⟩
    obtain ⟨y2, hy2⟩ : ∃ y2, sizeL (1 + (max (k * b) 64 + 7) / 8) = y2 := ⟨_, rfl⟩
    obtain ⟨y0, hy0⟩ : ∃ y0, (D).length = y0 := ⟨_, rfl⟩
    rw [hy1] at CFR hs1'
    rw [hy2] at CFI hs2'
    rw [hy0, hy1, hy2]
    have HY0 := Lib.hid hy0
    rw [hy0] at hD2
    clear hs1 hs2 hZ hib hy1 hy2 hm HB hy0
    obtain ⟨W, hW⟩ : ∃ W, w.alloc (.cells #[.int .i64 o.b, .int .i64 (e : Int), .int .i64 (b : Int), .int .i64 (k : Int), .int .i64 (y0 : Int), .int .i64 1, .int .i64 (I.length : Int), .int .i64 (szB 1 I : Int), .string (keyAt I I.length), .int .i64 (e : Int), .int .i64 0, .int .i64 (szB e G : Int), .string (keyAt G 0), .int .i64 (f : Int)] 112) = W := ⟨_, rfl⟩
    have HW := Lib.hid hW
    have HF0 : Hid (Fr No w W) := Lib.hid (by rw [← hW]; exact (Fr.refl No w).alloc _)
    have HM : Hid (MAt W w.heap.size o (mOf e k D I G f)) := Lib.hid (by
      rw [← hW]
      unfold MAt mcs mOf
      rw [h0, hoe, hon, HY0.out]
      exact At.new _ _ _)
    rw [HY0.out] at c4
    clear hW
    go_enter Tryz.func59, Tryz.ntmps59
    go_wp2_with fail
    rw [HW.out]
    have c4 : W.cell? ⟨w.heap.size, 4, none⟩ = some (.int .i64 (y0 : Int)) := by rw [← HY0.out]; exact HM.out.cells.2.2.2.2.1
    go_region_with
      (first
        | (go_at_call 94; refine (CFR.out _ (HM.out.keep ((Fr.refl No W).drew) (fun h => h))).mono ?_; rintro e7 w7 ⟨rfl, rfl⟩)
        | (go_at_call 95; refine (CFI.out _ (HM.out.keep ((Fr.refl No W).drew) (fun h => h))).mono ?_; rintro e8 w8 ⟨rfl, f8⟩
           have c4 := ((Fr.refl No W).drew.trans f8).cell c4 (fun h => h)
           have HF8 := Lib.hid ((HF0.out.drew).trans f8)
           clear f8))
    all_goals
      go_wp2_with fail
      go_ret
      refine ⟨?_, HF8.out⟩
      rw [wrap3 _ _ _ _ (by omega) (by omega) (by omega) (by omega) (by omega), show ((y0 + y1 + y2 + 24 : Nat) : Int) = (y0 : Int) + (y1 : Int) + (y2 : Int) + 24 by omega]
      rfl
  · rw [if_neg h0]
    obtain ⟨x, hx⟩ : ∃ x, idxP (keyAt G G.length) D.length (fblk e G).length = x := ⟨_, rfl⟩
    rw [hx]
    have hsz := szB_le e G 100000 (by omega) hGl
    have hszb : szB e G ≤ 10000000000 := by
      have : G.length * (31 + 2 * 100000) ≤ 40000 * (31 + 2 * 100000) := Nat.mul_le_mul_right _ hG
      omega
    have hfl := fblk_sz e G
    have hfb : (fblk e G).length ≤ 20000000000 := by rw [hfl]; have := sizeL_le (n := szB e G + 4 + 1) (by omega); omega
    have hkz : (keyAt G G.length).size ≤ 100000 := by
      unfold keyAt
      split
      · exact Nat.zero_le _
      · exact (hGl (G.length - 1) (by omega)).1
    have hIl2 : Low 100000 (I ++ [x]) := fun i hi => by
      rcases Nat.lt_or_ge i I.length with h | h
      · rw [getD_app1 I _ h]; exact hIl i h
      · obtain rfl : i = I.length := by rw [List.length_append, List.length_singleton] at hi; omega
        rw [getD_app2, ← hx]
        have h1 := enc_len9 (show D.length < 9223372036854775808 by omega)
        have h2 := enc_len9 (show (fblk e G).length < 9223372036854775808 by omega)
        refine ⟨hkz, ?_⟩
        show (strOf _).size ≤ 100000
        rw [size_strT, List.length_append]
        omega
    have hI2 : (I ++ [x]).length ≤ 40001 := by rw [List.length_append]; show I.length + 1 ≤ _; omega
    have hD2 : (D ++ fblk e G).length ≤ 200000000000000 := by rw [List.length_append]; omega
    have CE := Lib.hid (fun w' (m : MAt w' w.heap.size o (mOf e k D I G f)) => mend_c w' w.heap.size o e k D I G f m hoe he he2 hD hI hG hIl hGl)
    rw [hx] at CE
    clear hsz hszb hfl hfb hkz hx

    have HB := Lib.hid (szB_le 1 (I ++ [x]) 100000 (by omega) hIl2)
    have hib : szB 1 (I ++ [x]) ≤ 10000000000 := by
      have h1 := HB.out
      have h2 : ((I ++ [x])).length * (31 + 2 * 100000) ≤ 40001 * (31 + 2 * 100000) := Nat.mul_le_mul_right _ hI2
      omega
    have hZ : tabZ (D ++ fblk e G) (I ++ [x]) k b = ((D ++ fblk e G)).length + sizeL (szB 1 (I ++ [x]) + 4 + 1) + sizeL (1 + (max (k * b) 64 + 7) / 8) + 24 := by unfold tabZ; rw [fblk_sz]
    rw [hZ]
    have hs1 := sizeL_le (n := szB 1 (I ++ [x]) + 4 + 1) (by omega)
    have hm : k * b ≤ 100000 * 32 := Nat.mul_le_mul hk hb
    have hs2 := sizeL_le (n := 1 + (max (k * b) 64 + 7) / 8) (by omega)
    have hs2' : sizeL (1 + (max (k * b) 64 + 7) / 8) ≤ 1000000 := by omega
    have CFR := Lib.hid (fun w' (m : MAt w' w.heap.size o (mOf e k (D ++ fblk e G) (I ++ [x]) [] 0)) => bframe_c w' w.heap.size 5 (szB 1 (I ++ [x])) (show w'.cell? ⟨w.heap.size, 7, none⟩ = _ from m.cells.2.2.2.2.2.2.2.1) hib)
    have CFI := Lib.hid (fun w' (m : MAt w' w.heap.size o (mOf e k (D ++ fblk e G) (I ++ [x]) [] 0)) => mfilter_c w' w.heap.size k b m.cells.2.2.2.1 (by rw [← hon]; exact m.cells.2.2.1) hk hb)
    have hs1' : sizeL (szB 1 (I ++ [x]) + 4 + 1) ≤ 20000000000 := by omega
    obtain ⟨y1, hy1⟩ : ∃ y1, sizeL (szB 1 (I ++ [x]) + 4 + 1) = y1 := ⟨_, rfl⟩
    obtain ⟨y2, hy2⟩ : ∃ y2, sizeL (1 + (max (k * b) 64 + 7) / 8) = y2 := ⟨_, rfl⟩
    obtain ⟨y0, hy0⟩ : ∃ y0, ((D ++ fblk e G)).length = y0 := ⟨_, rfl⟩
    rw [hy1] at CFR hs1'
    rw [hy2] at CFI hs2'
    rw [hy0, hy1, hy2]
    have HY0 := Lib.hid hy0
    rw [hy0] at hD2
    clear hs1 hs2 hZ hib hy1 hy2 hm HB hy0
    obtain ⟨W, hW⟩ : ∃ W, w.alloc (.cells #[.int .i64 o.b, .int .i64 (e : Int), .int .i64 (b : Int), .int .i64 (k : Int), .int .i64 (D.length : Int), .int .i64 1, .int .i64 (I.length : Int), .int .i64 (szB 1 I : Int), .string (keyAt I I.length), .int .i64 (e : Int), .int .i64 (G.length : Int), .int .i64 (szB e G : Int), .string (keyAt G G.length), .int .i64 (f : Int)] 112) = W := ⟨_, rfl⟩
    have HW := Lib.hid hW
    have HF0 : Hid (Fr No w W) := Lib.hid (by rw [← hW]; exact (Fr.refl No w).alloc _)
    have HM0 : Hid (MAt W w.heap.size o (mOf e k D I G f)) := Lib.hid (by
      rw [← hW]
      unfold MAt mcs mOf
      rw [hoe, hon]
      exact At.new _ _ _)
    have hg0 : decide ((G.length : Int) > 0) = true := decide_eq_true (by omega)
    clear hW
    go_enter Tryz.func59, Tryz.ntmps59
    go_wp2_with fail
    rw [HW.out]
    refine (show Calls _ _ _ _ _ from CE.out _ HM0.out).mono ?_
    rintro e1 W2 ⟨rfl, m2, f2⟩
    have HM := Lib.hid m2
    have HF2 : Hid (Fr No w W2) := Lib.hid (HF0.out.then_ f2 fun k hk h => absurd hk (by have h : k = w.heap.size := h; omega))
    clear m2 f2 CE
    have c4 : W2.cell? ⟨w.heap.size, 4, none⟩ = some (.int .i64 (y0 : Int)) := by rw [← HY0.out]; exact HM.out.cells.2.2.2.2.1
    go_wp2_with fail
    have c4 : W2.cell? ⟨w.heap.size, 4, none⟩ = some (.int .i64 (y0 : Int)) := by rw [← HY0.out]; exact HM.out.cells.2.2.2.2.1
    go_region_with
      (first
        | (go_at_call 94; refine (CFR.out _ (HM.out.keep ((Fr.refl No W2).drew) (fun h => h))).mono ?_; rintro e7 w7 ⟨rfl, rfl⟩)
        | (go_at_call 95; refine (CFI.out _ (HM.out.keep ((Fr.refl No W2).drew) (fun h => h))).mono ?_; rintro e8 w8 ⟨rfl, f8⟩
           have c4 := ((Fr.refl No W2).drew.trans f8).cell c4 (fun h => h)
           have HF8 := Lib.hid ((HF2.out.drew).trans f8)
           clear f8))
    all_goals
      go_wp2_with fail
      go_ret
      refine ⟨?_, HF8.out⟩
      rw [wrap3 _ _ _ _ (by omega) (by omega) (by omega) (by omega) (by omega), show ((y0 + y1 + y2 + 24 : Nat) : Int) = (y0 : Int) + (y1 : Int) + (y2 : Int) + 24 by omega]
      rfl
end Go.Proofs.YtlobnbbndkhcbaaGreatDoor
