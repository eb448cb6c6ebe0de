/-
  The iterator over a key's probes: probesOf and the function that it hands back.
-/
import Derived.RangeFuncNested
import Derived.RangeFuncBound
import Derived.RangeFuncCalls
import Derived.RangeFuncLeaves
import Derived.Shelf.Abstract
import Derived.Shelf.RegionOpen
import Derived.WalkKit
import Derived.OwnWalkIn
import Derived.TacticsInMore
import Derived.LoopNIn
import Derived.LoopIn
import Derived.Test.YtbglicndccdaiaaDoorBlF
import Derived.Test.YtbglicndccdaiaaDoorRng
namespace Go.Proofs.YtbglicndccdaiaaDoor
set_option linter.unusedVariables false
open Go.RowKit Go.Shelf
attribute [local go_sem] Oper.semAt_some

theorem or_one (M D : Nat) (hM : M < 4294967296) (h : (M % 2 = 0 ∧ D = M + 1) ∨ (¬ M % 2 = 0 ∧ D = M)) : bits .or .u32 (M : Int) 1 = (D : Int) ∧ D < 4294967296 := by
  have e := u32_or (M : Int) 1 (by omega) (by omega) (by omega) (by omega)
  have e2 : M ||| 1 = 2 * (M / 2) + 1 := by
    apply Nat.eq_of_testBit_eq
    intro i
    cases i with
    | zero => simp
    | succ i =>
      rw [Nat.testBit_or, Nat.testBit_succ, Nat.testBit_succ, Nat.testBit_succ]
      have : (2 * (M / 2) + 1) / 2 = M / 2 := by omega
      rw [this]
      simp
  rw [e, Int.toNat_natCast, show (1 : Int).toNat = 1 from rfl, e2]
  omega
set_option maxRecDepth 100000 in
set_option maxHeartbeats 2000000 in
theorem probes1_in (n : Nat) (hn : 1 ≤ n) (y B1 B2 B3 B4 : Nat) (T : Nat → Prop) (l : List UInt8) (m c : Nat) (hm : 0 < m) (hm2 : m ≤ 1000000000) (hc : c ≤ 64) (J Jx : List Int → World → Prop)
    (hY : ∀ pre x W, J pre W → pre.length < c → YieldAt Fence.wide (n - 1) Tryd.prog y #[.int .i64 x] W fun e W' =>
      (e = .returned (.bool true) ∧ J (pre ++ [x]) W' ∧ Fr T W W') ∨ (e = .returned (.bool false) ∧ Jx (pre ++ [x]) W'))
    (W : World) (b3 : ¬ T B3) (b4 : ¬ T B4) (c1 : W.cell? ⟨B1, 0, none⟩ = some (.int .u32 ((pA l : Nat) : Int))) (c2 : W.cell? ⟨B2, 0, none⟩ = some (.int .i64 (c : Int))) (c3 : W.cell? ⟨B3, 0, none⟩ = some (.int .i64 (m : Int))) (c4 : W.cell? ⟨B4, 0, none⟩ = some (.int .u64 ((pD l : Nat) : Int))) (h0 : J [] W) :
    CallsIn Fence.wide n Tryd.prog 38 #[.func (.yield y) #[] #[], .pointer (some ⟨B1, 0, none⟩), .pointer (some ⟨B2, 0, none⟩), .pointer (some ⟨B3, 0, none⟩), .pointer (some ⟨B4, 0, none⟩)] W fun e W' => (∃ v, e = .returned v) ∧
      ((∃ ys, ys = placesI l m c ∧ J ys W') ∨ (∃ pre, pre <+: placesI l m c ∧ Jx pre W')) := by
  have hA := pA_lt l
  have hD := pD_lt l
  have HS := Lib.hid (placesI_succ l m)
  have HP := Lib.hid (show ∀ i, i ≤ 64 → i * pD l ≤ 64 * 4294967297 from fun i hi => Nat.mul_le_mul hi (Nat.le_of_lt hD))
  generalize pA l = A at *
  generalize pD l = D at *
  refine callsIn_of_wp Tryd.func38 rfl trivial ?_ rfl
  simp only [Tryd.ntmps38, List.size_toArray, List.length_cons, List.length_nil, Nat.reduceAdd, Nat.reduceSub, Array.replicate_succ, Array.replicate_zero, List.push_toArray, List.append_toArray, List.nil_append, List.cons_append]
  gi_wp2
  gi_loopw [6, 10] (fun u i wr => ∃ k p : Nat, i = .int .i64 k ∧ k ≤ c ∧ u = .int .u64 ((A : Int) + (p : Int)) ∧ p = k * D ∧ J (placesI l m k) wr ∧ Fr T W wr) (fun _ i _ => c - (intOf i).toNat)
  case atStart => exact ⟨0, 0, rfl, Nat.zero_le _, rfl, by simp, h0, Fr.refl _ _⟩
  case round =>
    obtain ⟨k, p, rfl, hk, rfl, hp, hJ, hb⟩ := hrel
    have c3' := hb.cell (p := ⟨B3, 0, none⟩) c3 b3
    have c4' := hb.cell (p := ⟨B4, 0, none⟩) c4 b4
    by_cases h1 : k < c
    · have hps := HP.out k (by omega)
      have hp64 : p ≤ 64 * 4294967297 := by omega
      have hst := HS.out k
      rw [← hp] at hst
      have ec : (((A + p) % m : Nat) : Int) = ((A : Int) + (p : Int)) % (m : Int) := by simp
      have hlt : ((A : Int) + (p : Int)) % (m : Int) < m := Int.emod_lt_of_pos _ (by omega)
      have hge : 0 ≤ ((A : Int) + (p : Int)) % (m : Int) := Int.emod_nonneg _ (by omega)
      have hlen : (placesI l m k).length < c := by rw [placesI_length]; exact h1
      have HPk := Lib.hid hp
      clear hp hps
      obtain ⟨fn, tmps, assign, body, hy, hR⟩ := hY (placesI l m k) (((A : Int) + (p : Int)) % (m : Int)) wr hJ hlen
      gi_wp2
      refine hR.mono ?_
      rintro e W3 (⟨rfl, hJ3, hk3⟩ | ⟨rfl, hJx3⟩)
      · rw [← ec, ← hst] at hJ3
        have c4'' := hk3.cell (p := ⟨B4, 0, none⟩) c4' b4
        gi_wp2
        go_roundw
        case rel => exact ⟨k + 1, p + D, by simp, by omega, by simp; omega, by rw [HPk.out, Nat.succ_mul], hJ3, hb.trans hk3⟩
        case measure => simp [intOf]; omega
      · rw [← ec, ← hst] at hJx3
        gi_wp2
        refine bodyPost_ret (results_none rfl _ _ _) rfl ?_
        exact ⟨⟨_, rfl⟩, .inr ⟨_, ⟨(placesI l m c).drop (k + 1), by rw [show placesI l m (k + 1) = (placesI l m c).take (k + 1) from by unfold placesI; rw [← List.map_take, places_take l m c (k + 1) (by omega)], List.take_append_drop]⟩, hJx3⟩⟩
    · have hkc : k = c := by omega
      subst hkc
      gi_wp2
      go_end0
      exact ⟨⟨_, rfl⟩, .inl ⟨_, rfl, hJ⟩⟩

/-- probesOf hands back a value that stops. -/
theorem probesOf_c (a : Option Addr) (len cap : Nat) (l : List UInt8) (m c : Int) (w : World) (hl : l.length = len) (hlm : len ≤ 1000000) (hr : Rd w a l) (ht : Tab w) :
    Calls Tryd.prog 27 #[.slice a len cap, .int .i64 m, .int .i64 c] w fun e w' =>
      e = .returned (.func (.func 38) #[] #[.pointer (some ⟨w.heap.size + 2, 0, none⟩), .pointer (some ⟨w.heap.size + 1, 0, none⟩), .pointer (some ⟨w.heap.size, 0, none⟩), .pointer (some ⟨w.heap.size + 3, 0, none⟩)]) ∧
      Fr No w w' ∧ w'.cell? ⟨w.heap.size, 0, none⟩ = some (.int .i64 m) ∧ w'.cell? ⟨w.heap.size + 1, 0, none⟩ = some (.int .i64 c) ∧ w'.cell? ⟨w.heap.size + 2, 0, none⟩ = some (.int .u32 ((pA l : Nat) : Int)) ∧ w'.cell? ⟨w.heap.size + 3, 0, none⟩ = some (.int .u64 ((pD l : Nat) : Int)) ∧ w'.heap.size = w.heap.size + 4 := by
  have f1 := (Fr.refl No w).alloc (.cells #[.int .i64 m] 3)
  have f2 := f1.alloc (.cells #[.int .i64 c] 3)
  have C1 : Calls Tryd.prog 36 #[.slice a len cap] ((w.alloc (.cells #[.int .i64 m] 3)).alloc (.cells #[.int .i64 c] 3)) fun e w' => e = .returned (.int .u32 ((pA l : Nat) : Int)) ∧ ((w.alloc (.cells #[.int .i64 m] 3)).alloc (.cells #[.int .i64 c] 3)) = w' := of_c a len cap l _ hl (by omega) (hr.keep f2) (fun i hi => f2.cell (ht i hi) (fun h => h))
  have hA := pA_lt l
  have C2 := fun w => mask_c ((pA l : Nat) : Int) w (by omega) (by omega)
  rw [mk_nat] at C2
  have hM := mkN_lt (pA l)
  have hD := pD_lt l
  have hor := or_one (mkN (pA l)) (pD l) hM (by
    unfold pD
    by_cases h : mkN (pA l) % 2 = 0
    · exact .inl ⟨h, if_pos h⟩
    · exact .inr ⟨h, if_neg h⟩)
  obtain ⟨hor, hD2⟩ := hor
  generalize pA l = A at *
  generalize pD l = D at *
  generalize mkN A = M at *
  have HC1 := Lib.hid C1
  have HC2 := Lib.hid C2
  clear hr ht hl C1 C2 f1 f2
  go_enter Tryd.func27, Tryd.ntmps27
  go_wp2_with fail
  refine (show Calls _ _ _ _ _ from HC1.out).mono ?_
  rintro e w1 ⟨rfl, rfl⟩
  go_wp2_with fail
  refine (HC2.out _).mono ?_
  rintro e w1 ⟨rfl, rfl⟩
  go_wp2_with fail
  go_ret
  refine ⟨rfl, ((((Fr.refl No w).alloc _).alloc _).alloc _).alloc _, ?_, ?_, ?_, ?_, by simp⟩
  · exact (((At.new' w _ _ rfl).alloc _).alloc _).alloc _ |>.cell 0
  · exact ((At.new' (w.alloc _) _ _ (by simp)).alloc _).alloc _ |>.cell 0
  · exact (At.new' ((w.alloc _).alloc _) _ _ (by simp)).alloc _ |>.cell 0
  · exact (At.new' (((w.alloc _).alloc _).alloc _) _ _ (by simp)) |>.cell 0
theorem probes_stops (n : Nat) (hn : 1 ≤ n) (B1 B2 B3 B4 : Nat) (T : Nat → Prop) (l : List UInt8) (m c : Nat) (hm : 0 < m) (hm2 : m ≤ 1000000000) (hc : c ≤ 64) (w : World)
    (b3 : ¬ T B3) (b4 : ¬ T B4) (c1 : w.cell? ⟨B1, 0, none⟩ = some (.int .u32 ((pA l : Nat) : Int))) (c2 : w.cell? ⟨B2, 0, none⟩ = some (.int .i64 (c : Int))) (c3 : w.cell? ⟨B3, 0, none⟩ = some (.int .i64 (m : Int))) (c4 : w.cell? ⟨B4, 0, none⟩ = some (.int .u64 ((pD l : Nat) : Int))) :
    SeqStopsK Fence.wide n Tryd.prog 38 #[.pointer (some ⟨B1, 0, none⟩), .pointer (some ⟨B2, 0, none⟩), .pointer (some ⟨B3, 0, none⟩), .pointer (some ⟨B4, 0, none⟩)] (fun x : Int => #[Value.int .i64 x]) (Fr T) (fun ys => ys = placesI l m c) (fun pre => pre <+: placesI l m c) c w :=
  fun y J Jx W hW _ _ hY h0 => by
    have k : ∀ {p : Addr} {v : Value}, w.cell? p = some v → W.cell? p = some v := fun h => (hW.cell (cell_block h)).trans h
    exact probes1_in n hn y B1 B2 B3 B4 T l m c hm hm2 hc J Jx hY W b3 b4 (k c1) (k c2) (k c3) (k c4) h0
end Go.Proofs.YtbglicndccdaiaaDoor
