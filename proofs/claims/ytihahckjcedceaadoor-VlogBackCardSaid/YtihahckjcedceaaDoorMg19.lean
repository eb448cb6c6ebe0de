/-
  Texts of layer 14 and of what it stands on, one behind the other.
-/
import Derived.Test.YtihahckjcedceaaDoorMg15

/- Layer 7, the program's own device: Check, New. -/
namespace Go.Proofs.YtihahckjcedceaaDoor
set_option linter.unusedVariables false
open Go.RowKit

theorem rightG_eq (z s o : Int) : rightG z s o = ((decide (1 ≤ z) && decide (z ≤ 64)) && (decide (16 ≤ s) && decide (s ≤ 65536)) && (decide (1 ≤ o) && decide (o ≤ z))) := by
  unfold rightG
  simp only [Bool.and_assoc]
set_option maxHeartbeats 800000 in
theorem check_c (z s o : Int) (w : World) : Calls Tryd.prog 64 #[.agg #[.int .i64 z, .int .i64 s, .int .i64 o]] w fun e w' => e = .returned (.bool (rightG z s o)) ∧ Fr No w w' := by
  have C1 := Lib.hid (within_c z 1 64)
  have C2 := Lib.hid (within_c s 16 65536)
  have C3 := Lib.hid (within_c o 1 z)
  rw [rightG_eq]
  have HF := Lib.hid ((Fr.refl No w).alloc (.cells #[.int .i64 z, .int .i64 s, .int .i64 o] 84))
  generalize (decide (1 ≤ z) && decide (z ≤ 64)) = A at *
  generalize (decide (16 ≤ s) && decide (s ≤ 65536)) = B at *
  generalize (decide (1 ≤ o) && decide (o ≤ z)) = C at *
  cases A with
  | false =>
    go_enter Tryd.func64, Tryd.ntmps64
    go_wp2_with fail
    refine (C1.out _).mono ?_
    rintro e w' ⟨rfl, rfl⟩
    go_wp2_with fail
    go_ret
    exact ⟨rfl, HF.out⟩
  | true =>
    cases B with
    | false =>
      go_enter Tryd.func64, Tryd.ntmps64
      go_wp2_with fail
      refine (C1.out _).mono ?_
      rintro e w' ⟨rfl, rfl⟩
      go_wp2_with fail
      refine (C2.out _).mono ?_
      rintro e w' ⟨rfl, rfl⟩
      go_wp2_with fail
      go_ret
      exact ⟨rfl, HF.out⟩
    | true =>
      go_enter Tryd.func64, Tryd.ntmps64
      go_wp2_with fail
      refine (C1.out _).mono ?_
      rintro e w' ⟨rfl, rfl⟩
      go_wp2_with fail
      refine (C2.out _).mono ?_
      rintro e w' ⟨rfl, rfl⟩
      go_wp2_with fail
      refine (C3.out _).mono ?_
      rintro e w' ⟨rfl, rfl⟩
      go_wp2_with fail
      go_ret
      exact ⟨rfl, HF.out⟩
theorem infoCt : (Tryd.prog.info? 95).map (fun i => (i.zero, i.size, i.bytes)) = some (some (.agg #[.slice none 0 0, .int .i64 0, .int .i64 0]), 3, 40) := by kernel_rfl
def zm0 : Zm := ⟨none, 0, zn0⟩
theorem zsC_zero : ∀ (n i : Nat), (zsC (List.replicate n zm0))[i]? = if i < n * 3 then some ((#[.slice none 0 0, .int .i64 0, .int .i64 0] : Array Value)[i % 3]!) else none
  | 0, i => by
    rw [if_neg (by omega)]
    rfl
  | n + 1, 0 => by
    rw [if_pos (by omega)]
    rfl
  | n + 1, 1 => by
    rw [if_pos (by omega)]
    rfl
  | n + 1, 2 => by
    rw [if_pos (by omega)]
    rfl
  | n + 1, i + 3 => by
    have := zsC_zero n i
    rw [show (i + 3) % 3 = i % 3 by omega]
    rw [List.replicate_succ]
    show (zsC (List.replicate n zm0))[i]? = _
    rw [this]
    by_cases h : i < n * 3
    · rw [if_pos h, if_pos (by omega)]
    · rw [if_neg h, if_neg (by omega)]
theorem made_zero (n : Nat) : madeCells (#[.slice none 0 0, .int .i64 0, .int .i64 0] : Array Value) (n * 3) = (zsC (List.replicate n zm0)).toArray := by
  apply Array.ext'
  apply List.ext_getElem?
  intro i
  show _ = (zsC (List.replicate n zm0))[i]?
  rw [zsC_zero, Array.getElem?_toList]
  unfold madeCells
  rw [Array.getElem?_map]
  by_cases h : i < n * 3
  · rw [if_pos h]
    simp [h]
  · rw [if_neg h]
    simp [h]
theorem make_zones (w : World) (n : Nat) (h : n ≤ 64) :
    (Instr.makeSlice 96 (.int .i64 (n : Int)) (.int .i64 (n : Int))).run Tryd.prog w = .ok (.slice (some ⟨w.heap.size, 0, none⟩) n n) (w.alloc (.cells (zsC (List.replicate n zm0)).toArray 95)) := by
  obtain ⟨i0, hi, hz0, hz1, hz2⟩ := info_parts infoCt
  have hr := run_make (P := Tryd.prog) w 96 95 i0 (.agg #[.slice none 0 0, .int .i64 0, .int .i64 0]) Tryd.underlying96 hi hz0 .i64 .i64 n n (by omega) (by omega) (by rw [hz2]; omega) (by omega)
  rw [hz1] at hr
  simp only [Int.toNat_natCast] at hr
  rw [show (Value.agg #[.slice none 0 0, .int .i64 0, .int .i64 0]).cells = #[.slice none 0 0, .int .i64 0, .int .i64 0] from rfl, made_zero] at hr
  exact hr
def NewD (z s o : Int) (w : World) (e : Ending) (w' : World) : Prop := Fr No w w' ∧ (rightG z s o = false → e = .returned (.pointer none)) ∧
  (rightG z s o = true → ∃ d F, e = .returned (.pointer (some ⟨d, 0, none⟩)) ∧ Dz w' d F (newM z s o) ∧ ∀ k, F k → w.heap.size ≤ k)
set_option maxRecDepth 20000 in
set_option maxHeartbeats 800000 in
theorem new_c (z s o : Int) (w : World) : Calls Tryd.prog 40 #[.agg #[.int .i64 z, .int .i64 s, .int .i64 o]] w (NewD z s o w) := by
  have C := Lib.hid (check_c z s o)
  cases h : rightG z s o with
  | false =>
    rw [h] at C
    have H := Lib.hid h
    clear h
    go_enter Tryd.func40, Tryd.ntmps40
    go_wp2_with fail
    refine (C.out _).mono ?_
    rintro e w1 ⟨rfl, hf⟩
    have HF := Lib.hid (((Fr.refl No w).alloc (.cells #[.int .i64 z, .int .i64 s, .int .i64 o] 84)).trans hf)
    clear hf
    go_wp2_with fail
    go_ret
    exact ⟨HF.out, fun _ => rfl, fun h => absurd (H.out.symm.trans h) (by decide)⟩
  | true =>
    rw [h] at C
    have H := Lib.hid h
    obtain ⟨g1, g2, g3, g4, g5, g6⟩ := rightG_iff.1 h
    clear h
    obtain ⟨n, rfl⟩ : ∃ n : Nat, z = (n : Int) := ⟨z.toNat, by omega⟩
    obtain ⟨s, rfl⟩ : ∃ k : Nat, s = (k : Int) := ⟨s.toNat, by omega⟩
    obtain ⟨o, rfl⟩ : ∃ k : Nat, o = (k : Int) := ⟨o.toNat, by omega⟩
    have hb : w.heap.size < (w.alloc (.cells #[.int .i64 (n : Int), .int .i64 (s : Int), .int .i64 (o : Int)] 84)).heap.size := by simp
    have ha := At.new w 84 #[.int .i64 (n : Int), .int .i64 (s : Int), .int .i64 (o : Int)]
    have f0 := (Fr.refl No w).alloc (.cells #[.int .i64 (n : Int), .int .i64 (s : Int), .int .i64 (o : Int)] 84)
    go_enter Tryd.func40, Tryd.ntmps40
    go_wp2_with fail
    refine (C.out _).mono ?_
    rintro e w1 ⟨rfl, hf⟩
    have ha1 := ha.keep hf (fun h => h)
    have c0 := ha1.cell 0
    have c1 := ha1.cell 1
    have c2 := ha1.cell 2
    simp at c0 c1 c2
    have HF := Lib.hid (f0.trans hf)
    clear hf f0 ha ha1 hb C
    have hmk := make_zones w1.drew n (by omega)
    generalize hZL : zsC (List.replicate n zm0) = ZL at hmk
    have HZL := Lib.hid hZL
    clear hZL
    have k0 := ((Fr.refl No w1).alloc (.cells ZL.toArray 95)).cell c0 (fun h => h)
    have k1 := ((Fr.refl No w1).alloc (.cells ZL.toArray 95)).cell c1 (fun h => h)
    have k2 := ((Fr.refl No w1).alloc (.cells ZL.toArray 95)).cell c2 (fun h => h)
    go_wp2_with fail
    go_region
    go_wp2_with fail
    go_ret
    have f1 := (Fr.refl No w1).alloc (.cells ZL.toArray 95)
    have fz := (Fr.refl No (w1.alloc (.cells ZL.toArray 95))).alloc (.cells #[.int .i64 (n : Int), .int .i64 (s : Int), .int .i64 (o : Int), .slice (some ⟨w1.heap.size, 0, none⟩) n n, .int .i64 0, .bool false, .int .i64 0, .bool false] 98)
    have hs1 : (w1.alloc (.cells ZL.toArray 95)).heap.size = w1.heap.size + 1 := by simp
    have a1 := At.new w1 95 ZL.toArray
    have a2 := At.new (w1.alloc (.cells ZL.toArray 95)) 98 #[.int .i64 (n : Int), .int .i64 (s : Int), .int .i64 (o : Int), .slice (some ⟨w1.heap.size, 0, none⟩) n n, .int .i64 0, .bool false, .int .i64 0, .bool false]
    rw [hs1] at a2
    rw [← HZL.out] at a1
    refine ⟨HF.out.trans ((f1.trans fz).drew), fun h => absurd (H.out.symm.trans h) (by decide), fun _ => ⟨w1.heap.size + 1, fun k => k = w1.heap.size ∨ k = w1.heap.size + 1, rfl, ⟨fun k hk => ?_, w1.heap.size, List.replicate n zm0, false, 0, ⟨?_, ?_, by omega, ?_, ⟨rfl, by decide, fun k hk => by cases hk⟩, fun i x hx => ?_, fun i j x y k hx hy hk _ => ?_⟩, .inr rfl, .inl rfl, fun x hx k hk => ?_⟩, fun k hk => ?_⟩⟩
    · show k < (((w1.alloc _).alloc _).drew).heap.size
      have : (((w1.alloc (.cells ZL.toArray 95)).alloc (.cells #[.int .i64 (n : Int), .int .i64 (s : Int), .int .i64 (o : Int), .slice (some ⟨w1.heap.size, 0, none⟩) n n, .int .i64 0, .bool false, .int .i64 0, .bool false] 98)).drew).heap.size = w1.heap.size + 2 := by
        show (((w1.alloc (.cells ZL.toArray 95)).alloc (.cells #[.int .i64 (n : Int), .int .i64 (s : Int), .int .i64 (o : Int), .slice (some ⟨w1.heap.size, 0, none⟩) n n, .int .i64 0, .bool false, .int .i64 0, .bool false] 98))).heap.size = _
        simp
      rw [this]
      omega
    · show At _ _ _ (dvC ((List.replicate n zn0).length : Int) (s : Int) (o : Int) w1.heap.size (List.replicate n zn0).length 0 false 0 false)
      rw [List.length_replicate]
      exact a2
    · rw [← HZL.out]
      exact (a1.keep (S := No) (by rw [HZL.out]; exact fz.drew) (fun h => h))
    · show (List.replicate n zm0).map Zm.z = List.replicate n zn0
      rw [List.map_replicate]
      rfl
    · obtain rfl : x = zm0 := List.eq_of_mem_replicate (List.mem_of_getElem? hx)
      exact Row.nil _ _
    · obtain rfl : x = zm0 := List.eq_of_mem_replicate (List.mem_of_getElem? hx)
      cases hk
    · obtain rfl : x = zm0 := List.eq_of_mem_replicate hx
      cases hk
    · have := HF.out.size
      omega
end Go.Proofs.YtihahckjcedceaaDoor
