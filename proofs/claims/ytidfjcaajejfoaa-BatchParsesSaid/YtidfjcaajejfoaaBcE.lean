/-
  Layer 10, the program's own: the iterator from a slice of ops' end to its beginning.
-/
import Derived.RangeFuncNested
import Derived.RangeFuncBound
import Derived.RangeFuncCalls
import Derived.RangeFuncLeaves
import Derived.Shelf.Abstract
import Derived.Shelf.RegionOpen
import Derived.WalkKit
import Derived.OwnWalkIn
import Derived.TacticsInMore
import Derived.LoopNIn
import Derived.LoopIn
import Derived.Test.YtidfjcaajejfoaaBaX
namespace Go.Proofs.Ytidfjcaajejfoaa
set_option linter.unusedVariables false
open Go.RowKit Go.Shelf
attribute [local go_sem] Oper.semAt_some

/-- A place of m. -/
abbrev Pla (m : Nat) : Type := { i : Nat // i < m }
/-- The k last places, falling. -/
def bk (m : Nat) : Nat → List (Pla m)
  | 0 => []
  | k + 1 => if h : k < m then bk m k ++ [⟨m - 1 - k, by omega⟩] else bk m k
theorem bk_step {m j : Nat} (h : j < m) : bk m (m - 1 - j + 1) = bk m (m - 1 - j) ++ [⟨j, h⟩] := by
  show (if h : m - 1 - j < m then bk m (m - 1 - j) ++ [⟨m - 1 - (m - 1 - j), by omega⟩] else bk m (m - 1 - j)) = _
  rw [dif_pos (by omega)]
  congr 3
  omega
theorem bk_len (m : Nat) : ∀ k, k ≤ m → (bk m k).length = k
  | 0, _ => rfl
  | k + 1, h => by
    have e : bk m (k + 1) = bk m k ++ [⟨m - 1 - k, by omega⟩] := by
      show (if h : k < m then bk m k ++ [⟨m - 1 - k, by omega⟩] else bk m k) = _
      rw [dif_pos (by omega)]
    rw [e, List.length_append, bk_len m k (by omega)]
    rfl
theorem bk_prefix (m k : Nat) : ∀ d, bk m k <+: bk m (k + d)
  | 0 => List.prefix_refl _
  | d + 1 => by
    refine (bk_prefix m k d).trans ?_
    show bk m (k + d) <+: (if h : k + d < m then bk m (k + d) ++ [⟨m - 1 - (k + d), by omega⟩] else bk m (k + d))
    split
    · exact List.prefix_append _ _
    · exact List.prefix_refl _
set_option maxRecDepth 100000 in
set_option maxHeartbeats 2000000 in
theorem back_in (n : Nat) (hn : 1 ≤ n) (y B1 : Nat) (a : Option Addr) (ca : Nat) (l : List Op10) (S T : Nat → Prop) (hm : l.length ≤ 9223372036854775807) (h1 : ¬ T B1) (h2 : ∀ k, S k → ¬ T k) (J Jx : List (Pla l.length) → World → Prop)
    (hY : ∀ pre (z : Pla l.length) W, J pre W → pre.length < l.length → YieldAt Fence.wide (n - 1) Try.prog y #[.int .i64 ((z.val : Nat) : Int), opV (l.getD z.val op0)] W fun e W' =>
      (e = .returned (.bool true) ∧ J (pre ++ [z]) W' ∧ Fr T W W') ∨ (e = .returned (.bool false) ∧ Jx (pre ++ [z]) W'))
    (W : World) (b1 : W.cell? ⟨B1, 0, none⟩ = some (.slice a l.length ca)) (cr : Ops W S a l) (h0 : J [] W) :
    CallsIn Fence.wide n Try.prog 44 #[.func (.yield y) #[] #[], .pointer (some ⟨B1, 0, none⟩)] W fun e W' => (∃ v, e = .returned v) ∧
      ((∃ ys, ys = bk l.length l.length ∧ J ys W') ∨ (∃ pre, pre <+: bk l.length l.length ∧ Jx pre W')) := by
  have HY := Lib.hid hY
  have HCR := Lib.hid cr
  have HS := Lib.hid h2
  have HB := Lib.hid (fun j (h : j < l.length) => bk_step h)
  have HBL := Lib.hid (fun k (h : k ≤ l.length) => bk_len l.length k h)
  obtain ⟨m, hm'⟩ : ∃ m, m = l.length := ⟨_, rfl⟩
  rw [← hm'] at b1 hm
  have HM := Lib.hid hm'
  clear hY cr hm' h2
  refine callsIn_of_wp Try.func44 rfl trivial ?_ rfl
  simp only [Try.ntmps44, List.size_toArray, List.length_cons, List.length_nil, Nat.reduceAdd, Nat.reduceSub, Array.replicate_succ, Array.replicate_zero, List.push_toArray, List.append_toArray, List.nil_append, List.cons_append]
  gi_wp2
  gi_loopw [3] (fun i wr => ((∃ j : Nat, j < m ∧ i = .int .i64 j ∧ J (bk l.length (l.length - 1 - j)) wr) ∨ (i = .int .i64 (-1) ∧ J (bk l.length l.length) wr)) ∧ wr.cell? ⟨B1, 0, none⟩ = some (.slice a m ca) ∧ Ops wr S a l) (fun i _ => (intOf i + 1).toNat)
  case atStart =>
    refine ⟨?_, b1, HCR.out⟩
    by_cases h : m = 0
    · refine .inr ⟨by rw [h]; rfl, ?_⟩
      have : bk l.length l.length = [] := List.eq_nil_of_length_eq_zero (by rw [HBL.out _ (Nat.le_refl _), ← HM.out, h])
      rw [this]
      exact h0
    · refine .inl ⟨m - 1, by omega, ?_, ?_⟩
      · congr 1
        have : IntKind.i64.wrap ((m : Int) - 1) = (m : Int) - 1 := IntWalk.i64_in _ (by omega)
        omega
      · have : l.length - 1 - (m - 1) = 0 := by rw [← HM.out]; omega
        rw [this]
        exact h0
  case round =>
    clear h0
    obtain ⟨hc, hb1, hops⟩ := hrel
    rcases hc with ⟨j, hj, rfl, hJ⟩ | ⟨rfl, hJ⟩
    · have HJ := Lib.hid hJ
      have HO := Lib.hid hops
      have hjl : j < l.length := by rw [← HM.out]; exact hj
      obtain ⟨b, o, hb, rfl, hx⟩ := hops (by omega)
      have hx := hx j hjl
      have hy0 := HY.out (bk l.length (l.length - 1 - j)) ⟨j, hjl⟩ wr HJ.out (by rw [HBL.out _ (by omega)]; omega)
      have HST := Lib.hid (HB.out j hjl)
      obtain ⟨c0, c1, c2⟩ := hx
      have hy0 : YieldAt Fence.wide (n - 1) Try.prog y #[.int .i64 (j : Int), .agg #[.int .i64 (l.getD j op0).k, .string (l.getD j op0).key, .string (l.getD j op0).val]] wr _ := hy0
      generalize l.getD j op0 = x at c0 c1 c2 hy0
      have d1 : decide ((0 : Int) ≤ (j : Int)) = true := by simp
      have e1 : IntKind.i64.wrap ((j : Int) - 1) = (j : Int) - 1 := IntWalk.i64_in _ (by omega)
      clear hJ hops
      obtain ⟨fn, tmps, assign, body, hy, hR⟩ := hy0
      have hy : (Instr.yield y #[.int .i64 (j : Int), .agg #[.int .i64 x.k, .string x.key, .string x.val]]).run Try.prog wr = .ok (.round y fn tmps assign body) wr := hy
      gi_wp2
      refine hR.mono ?_
      rintro e W3 (⟨rfl, hJ3, hk3⟩ | ⟨rfl, hJx3⟩)
      · have HJ3 := Lib.hid hJ3
        have HK3 := Lib.hid hk3
        clear hJ3 hk3 hR hy
        gi_wp2
        go_roundw
        case rel =>
          refine ⟨?_, HK3.out.cell hb1 h1, HO.out.keep HK3.out HS.out⟩
          have h3 := HJ3.out
          rw [← HST.out] at h3
          by_cases h : j = 0
          · refine .inr ⟨by subst h; rfl, ?_⟩
            rw [show l.length - 1 - j + 1 = l.length by omega] at h3
            exact h3
          · refine .inl ⟨j - 1, by omega, by congr 1; omega, ?_⟩
            rw [show l.length - 1 - j + 1 = l.length - 1 - (j - 1) by omega] at h3
            exact h3
        case measure => simp [intOf]
      · have HJ3 := Lib.hid hJx3
        clear hJx3 hR hy
        gi_wp2
        refine bodyPost_ret (results_none rfl _ _ _) rfl ?_
        refine ⟨⟨_, rfl⟩, .inr ⟨_, ?_, HJ3.out⟩⟩
        rw [← HST.out]
        have := bk_prefix l.length (l.length - 1 - j + 1) j
        rw [show l.length - 1 - j + 1 + j = l.length by omega] at this
        exact this
    · have HJ := Lib.hid hJ
      clear hJ hops
      gi_wp2
      go_end0
      exact ⟨⟨_, rfl⟩, .inl ⟨_, rfl, HJ.out⟩⟩
abbrev seqB (B1 : Nat) : Value := .func (.func 44) #[] #[.pointer (some ⟨B1, 0, none⟩)]
/-- What an iterator over ops reads. -/
structure SeqB (w : World) (S : Nat → Prop) (B1 : Nat) (a : Option Addr) (ca : Nat) (l : List Op10) : Prop where
  b1 : w.cell? ⟨B1, 0, none⟩ = some (.slice a l.length ca)
  ops : Ops w S a l
  lt : ∀ k, S k → k < w.heap.size
theorem SeqB.stops {w : World} {S : Nat → Prop} {B1 : Nat} {a : Option Addr} {ca : Nat} {l : List Op10} (h : SeqB w S B1 a ca l) (n : Nat) (hn : 1 ≤ n) (T : Nat → Prop) (hm : l.length ≤ 9223372036854775807) (h1 : ¬ T B1) (h2 : ∀ k, S k → ¬ T k) :
    SeqStopsK Fence.wide n Try.prog 44 #[.pointer (some ⟨B1, 0, none⟩)] (fun z : Pla l.length => #[Value.int .i64 ((z.val : Nat) : Int), opV (l.getD z.val op0)]) (Fr T) (fun ys => ys = bk l.length l.length) (fun pre => pre <+: bk l.length l.length) l.length w :=
  fun y J Jx W hW _ _ hY h0 => by
    have k : ∀ {p : Addr} {v : Value}, w.cell? p = some v → W.cell? p = some v := fun h => (hW.cell (cell_block h)).trans h
    refine back_in n hn y B1 a ca l S T hm h1 h2 J Jx hY W (k h.b1) (fun hl => ?_) h0
    obtain ⟨b, o, hb, ha, hc⟩ := h.ops hl
    exact ⟨b, o, hb, ha, fun i hi => ⟨k (hc i hi).c0, k (hc i hi).c1, k (hc i hi).c2⟩⟩
/-- What Backward hands back. -/
def BackRet (a : Option Addr) (ca n : Nat) (w : World) (e : Ending) (w' : World) : Prop := ∃ B1, e = .returned (seqB B1) ∧ Fr No w w' ∧ w'.cell? ⟨B1, 0, none⟩ = some (.slice a n ca) ∧ w.heap.size ≤ B1
set_option maxHeartbeats 800000 in
theorem backward_c (a : Option Addr) (ca n : Nat) (w : World) : Calls Try.prog 35 #[.slice a n ca] w (BackRet a ca n w) := by
  obtain ⟨w1, hw1⟩ : ∃ w1, w.alloc (.cells #[.slice a n ca] 22) = w1 := ⟨_, rfl⟩
  have f1 : Fr No w w1 := by rw [← hw1]; exact (Fr.refl No w).alloc _
  have a1 : At w1 w.heap.size 22 #[.slice a n ca] := by rw [← hw1]; exact At.new _ _ _
  have HR : Hid (BackRet a ca n w (.returned (seqB w.heap.size)) w1) := Lib.hid ⟨_, rfl, f1, a1.cell 0, Nat.le_refl _⟩
  have HW := Lib.hid hw1
  clear f1 a1 hw1
  go_enter Try.func35, Try.ntmps35
  go_wp2_with fail
  go_ret
  rw [HW.out]
  exact HR.out
end Go.Proofs.Ytidfjcaajejfoaa
