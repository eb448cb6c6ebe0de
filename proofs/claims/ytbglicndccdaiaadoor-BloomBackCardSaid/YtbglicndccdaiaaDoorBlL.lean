/-
  Layer 4: contracts of slices.Clone, Grow and Concat at bytes; of a filter's Bytes and Parse.
-/
import Derived.Test.YtbglicndccdaiaaDoorBlK
import Derived.Test.YtbglicndccdaiaaDoorOpenB
import Derived.Laws.Append
namespace Go.Proofs.YtbglicndccdaiaaDoor
set_option linter.unusedVariables false
set_option linter.unusedSimpArgs false
open Go.RowKit

theorem gr_lt {w wr : World} : ∀ k, Gr No w wr k → k < wr.heap.size := fun k hk => by
  rcases hk with hk | hk
  · exact hk.elim
  · exact hk.2
theorem row_empty (w : World) : Row (w.alloc (.cells #[] 5)) (Gr No w (w.alloc (.cells #[] 5))) (.slice (some ⟨w.heap.size, 0, none⟩) 0 0) [] :=
  ⟨⟨rfl, .inr ⟨w.heap.size, 0, #[], rfl, Nat.zero_le _, heap_alloc_new w _, Nat.le_refl _, by simp [maxLen], rfl, rfl⟩⟩, fun k hk => by
    have : w.heap.size = k := Option.some.inj hk
    subst this
    exact .inr ⟨Nat.le_refl _, by simp⟩⟩
set_option maxHeartbeats 800000 in
theorem clone_c (b o len cap : Nat) (l : List UInt8) (w : World) (hl : l.length = len) (hlm : len ≤ 1000000000) (hr : Rd w (some ⟨b, o, none⟩) l) :
    Calls Tryd.prog 35 #[.slice (some ⟨b, o, none⟩) len cap] w (NewRow l w) := by
  have R0 := row_empty w
  have f0 := (Fr.refl No w).alloc (.cells #[] 5)
  obtain ⟨v1, w1, hrun, hrow, hfr⟩ := R0.append (some ⟨b, o, none⟩) len cap l hl (hr.keep f0) (by simp; omega)
  rw [List.nil_append] at hrow
  have HRUN := Lib.hid hrun
  have HN : Hid (NewRow l w (.returned v1) w1) := Lib.hid ⟨v1, rfl, hrow.join f0.size hfr.size, f0.then_ hfr fun k hk h => Gr.old hk h⟩
  clear R0 f0 hrun hrow hfr hr hl
  have he : ∀ w : World, (binOp .eql 23 (.slice (some ⟨b, o, none⟩) len cap) (.slice none 0 0)).run Tryd.prog w = .ok (.bool false) w := fun _ => rfl
  go_enter Tryd.func35, Tryd.ntmps35
  go_wp2_with (at_builtin; refine wpList_append_run rfl _ _ 23 rfl rfl rfl HRUN.out ?_)
  go_ret
  exact HN.out

set_option maxHeartbeats 2000000 in
set_option maxRecDepth 100000 in
theorem grow_c (n : Nat) (h1 : 1 ≤ n) (hn : n ≤ 1000000000) (w : World) :
    Calls Tryd.prog 39 #[.slice none 0 0, .int .i64 (n : Int)] w (NewRow [] w) := by
  obtain ⟨i0, hi, hz0, hz1, hz2⟩ := info_parts infoU8
  have hold : (Builtin.firstCells i0.size 0 (.slice none 0 0)).run Tryd.prog w.drew = .ok (#[] : Array Value) w.drew := run_firstCells_none w.drew i0.size 0 0 0
  have hrz : ∀ ty, (Builtin.append_ #[23, 3] ty #[.slice none 0 0, .int .i64 (n : Int)]).run Tryd.prog w =
      .ok (.slice (some ⟨w.heap.size, 0, none⟩) n (grownCap w n 0 5)) (w.drew.alloc (.cells ((#[] : Array Value) ++ Builtin.zeroCells (Value.int .u8 0).cells n ++ Builtin.zeroCells (Value.int .u8 0).cells (grownCap w n 0 5 - n)) 5)) := fun ty => by
    have h := Lib.run_append_grow_zeros w 23 3 ty 5 i0 (.int .u8 0) .i64 .i64 Tryd.underlying23 Tryd.underlying3 hi hz0 none 0 0 [] hold n (by omega) (by omega) (by omega) (by omega)
      (by rw [hz2]; omega)
      (by rw [hz2, Nat.zero_add]; exact growslice_fits (by omega) (by omega))
    rw [Nat.zero_add] at h
    exact h
  have hGn : n ≤ grownCap w n 0 5 := grownCap_ge w _ _ _
  have hG63 : grownCap w n 0 5 ≤ maxLen := grownCap_le_maxLen w n 0 5 (by unfold maxLen; omega)
  obtain ⟨G, hG⟩ : ∃ G, G = grownCap w n 0 5 := ⟨_, rfl⟩
  rw [← hG] at hrz hGn hG63
  have HN : Hid (NewRow [] w (.returned (.slice (some ⟨w.heap.size, 0, none⟩) 0 G)) (w.alloc (.cells (Builtin.zeroCells #[.int .u8 0] n ++ Builtin.zeroCells #[.int .u8 0] (G - n)) 5)).drew) := Lib.hid
    ⟨_, rfl, ⟨⟨rfl, .inr ⟨w.heap.size, G, Builtin.zeroCells #[.int .u8 0] n ++ Builtin.zeroCells #[.int .u8 0] (G - n), rfl, Nat.zero_le _, heap_alloc_new w _, Nat.zero_le _, hG63, by
      rw [Array.size_append, size_zeroCells, size_zeroCells]
      simp
      omega, by simp⟩⟩, fun k hk => by
        have : w.heap.size = k := Option.some.inj hk
        subst this
        exact .inr ⟨Nat.le_refl _, by show w.heap.size < (w.alloc _).heap.size; simp⟩⟩, ((Fr.refl No w).alloc _).drew⟩
  unfold maxLen at hG63
  clear hold hG hi hz0 hz1 hz2
  go_enter Tryd.func39, Tryd.ntmps39
  go_wp2_with (at_builtin; refine Lib.wpList_append_run _ rfl _ _ _ _ rfl _ _ rfl rfl _ _ (hrz _) ?_)
  all_goals (go_ret; exact HN.out)
/-- What stands ahead of part k of two. -/
def front (x y : List UInt8) : Nat → List UInt8
  | 0 => []
  | 1 => x
  | _ => x ++ y
theorem front_length (x y : List UInt8) (k : Nat) (hx : x.length ≤ 1) (hy : y.length ≤ 1000000) : (front x y k).length ≤ 1000001 := by
  rcases k with _ | _ | k <;> simp [front] <;> omega
set_option maxHeartbeats 2000000 in
set_option maxRecDepth 100000 in
theorem concat_c (S : Nat) (a1 a2 : Option Addr) (c1 n c2 : Nat) (x : UInt8) (bs : List UInt8) (w : World) (h1 : w.cell? ⟨S, 0, none⟩ = some (.slice a1 1 c1)) (h2 : w.cell? ⟨S, 1, none⟩ = some (.slice a2 n c2)) (r1 : Rd w a1 [x]) (r2 : Rd w a2 bs) (hn : bs.length = n) (hn2 : n ≤ 1000000) :
    Calls Tryd.prog 30 #[.slice (some ⟨S, 0, none⟩) 2 2] w (NewRow (x :: bs) w) := by
  have CG := Lib.hid (grow_c (1 + n) (by omega) (by omega))
  have HR1 := Lib.hid r1
  have HR2 := Lib.hid r2
  have HN := Lib.hid hn
  have H1 := Lib.hid h1
  have H2 := Lib.hid h2
  clear r1 r2 hn
  go_enter Tryd.func30, Tryd.ntmps30
  go_wp2_with fail
  go_loopw [3, 11] (fun z i wr => ∃ k : Nat, i = .int .i64 k ∧ k ≤ 2 ∧ z = .int .i64 ((if k = 0 then 0 else if k = 1 then 1 else 1 + n : Nat) : Int) ∧ wr = w) (fun _ i _ => 2 - (intOf i).toNat)
  case atStart => exact ⟨0, rfl, by omega, rfl, rfl⟩
  case round =>
    obtain ⟨k, rfl, hk, rfl, rfl⟩ := hrel
    rcases (show k = 0 ∨ k = 1 ∨ k = 2 by omega) with rfl | rfl | rfl
    · go_wp2_with fail
      go_roundw
      case rel => exact ⟨1, by simp, by omega, by simp, by simp⟩
      case measure => simp [intOf]
    · go_wp2_with fail
      go_roundw
      case rel => exact ⟨2, by simp, by omega, by simp, by simp⟩
      case measure => simp [intOf]
    · have e2 : ((if (2 : Nat) = 0 then 0 else if (2 : Nat) = 1 then 1 else 1 + n : Nat) : Int) = ((1 + n : Nat) : Int) := by simp
      rw [e2]
      clear e2
      obtain ⟨M, hM⟩ : ∃ M, 1 + n = M := ⟨_, rfl⟩
      rw [hM] at CG ⊢
      have hM2 : M ≤ 1000001 := by omega
      clear hM
      go_wp2_with fail
      refine (show Calls _ _ _ _ _ from CG.out _).mono ?_
      rintro e w1 ⟨v, rfl, hrow, hfr⟩
      have HROW := Lib.hid hrow
      have HFR := Lib.hid hfr
      have g1 := hfr.cell h1 (fun h => h)
      have g2 := hfr.cell h2 (fun h => h)
      clear hrow hfr h1 h2 CG
      go_wp2_with fail
      go_loopw [6, 27] (fun v i wr' => ∃ k : Nat, i = .int .i64 k ∧ k ≤ 2 ∧ Row wr' (Gr No wr wr') v (front [x] bs k) ∧ Fr No wr wr') (fun _ i _ => 2 - (intOf i).toNat)
      case atStart => exact ⟨0, rfl, by omega, HROW.out, HFR.out⟩
      case round =>
        obtain ⟨k, rfl, hk, hrow, hfr⟩ := hrel
        have q1 := hfr.cell H1.out (fun h => h)
        have q2 := hfr.cell H2.out (fun h => h)
        have hfl := front_length [x] bs k (by simp) (by rw [HN.out]; exact hn2)
        rcases (show k = 0 ∨ k = 1 ∨ k = 2 by omega) with rfl | rfl | rfl
        · obtain ⟨v1, w2, hrun, hrow1, hfr1⟩ := hrow.append a1 1 c1 [x] rfl (HR1.out.keep hfr) (by omega)
          have HRUN := Lib.hid hrun
          have HW := Lib.hid (hrow1.join hfr.size hfr1.size)
          have HF := Lib.hid (hfr.then_ hfr1 fun k hk h => Gr.old hk h)
          clear hrow hfr hrun hrow1 hfr1 hfl
          go_wp2_with (at_builtin; refine wpList_append_run rfl _ _ 23 rfl rfl rfl HRUN.out ?_)
          go_roundw
          case rel => exact ⟨1, by simp, by omega, HW.out, HF.out⟩
          case measure => simp [intOf]
        · obtain ⟨v1, w2, hrun, hrow1, hfr1⟩ := hrow.append a2 n c2 bs HN.out (HR2.out.keep hfr) (by omega)
          have HRUN := Lib.hid hrun
          have HW := Lib.hid (hrow1.join hfr.size hfr1.size)
          have HF := Lib.hid (hfr.then_ hfr1 fun k hk h => Gr.old hk h)
          clear hrow hfr hrun hrow1 hfr1 hfl
          go_wp2_with (at_builtin; refine wpList_append_run rfl _ _ 23 rfl rfl rfl HRUN.out ?_)
          go_roundw
          case rel => exact ⟨2, by simp, by omega, HW.out, HF.out⟩
          case measure => simp [intOf]
        · have HW := Lib.hid hrow
          have HF := Lib.hid hfr
          clear hrow hfr hfl
          go_wp2_with fail
          go_ret
          exact ⟨_, rfl, HW.out, HF.out⟩
end Go.Proofs.YtbglicndccdaiaaDoor
