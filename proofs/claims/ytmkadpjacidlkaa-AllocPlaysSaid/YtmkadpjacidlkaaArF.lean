/-
  Layer 8, the program's own table: the iterator over the zones of a role.
-/
import Derived.RangeFuncNested
import Derived.RangeFuncBound
import Derived.RangeFuncCalls
import Derived.RangeFuncLeaves
import Derived.Shelf.Abstract
import Derived.Shelf.RegionOpen
import Derived.WalkKit
import Derived.OwnWalkIn
import Derived.TacticsInMore
import Derived.LoopNIn
import Derived.LoopIn
import Derived.Test.YtmkadpjacidlkaaArA
import Derived.Test.YtmkadpjacidlkaaRng
namespace Go.Proofs.Ytmkadpjacidlkaa
set_option linter.unusedVariables false
open Go.RowKit Go.Shelf
attribute [local go_sem] Oper.semAt_some

/-- A zone of the role x. -/
abbrev Zx (r : List Nat) (x : Int) : Type := { z : Nat // z < r.length ∧ ((r.getD z 0 : Nat) : Int) = x }
/-- Those below k, rising. -/
def zl (r : List Nat) (x : Int) : Nat → List (Zx r x)
  | 0 => []
  | k + 1 => if h : k < r.length ∧ ((r.getD k 0 : Nat) : Int) = x then zl r x k ++ [⟨k, h⟩] else zl r x k
theorem zl_yes {r : List Nat} {x : Int} {k : Nat} (h : k < r.length ∧ ((r.getD k 0 : Nat) : Int) = x) : zl r x (k + 1) = zl r x k ++ [⟨k, h⟩] := by
  show (if h : k < r.length ∧ ((r.getD k 0 : Nat) : Int) = x then zl r x k ++ [⟨k, h⟩] else zl r x k) = _
  rw [dif_pos h]
theorem zl_no {r : List Nat} {x : Int} {k : Nat} (h : ¬ ((r.getD k 0 : Nat) : Int) = x) : zl r x (k + 1) = zl r x k := by
  show (if h : k < r.length ∧ ((r.getD k 0 : Nat) : Int) = x then zl r x k ++ [⟨k, h⟩] else zl r x k) = _
  rw [dif_neg fun hh => h hh.2]
theorem zl_len (r : List Nat) (x : Int) : ∀ k, (zl r x k).length ≤ k
  | 0 => Nat.le_refl _
  | k + 1 => by
    have := zl_len r x k
    show (if h : k < r.length ∧ ((r.getD k 0 : Nat) : Int) = x then zl r x k ++ [⟨k, h⟩] else zl r x k).length ≤ _
    split
    · rw [List.length_append, List.length_singleton]; omega
    · omega
theorem zl_prefix (r : List Nat) (x : Int) (k : Nat) : ∀ d, zl r x k <+: zl r x (k + d)
  | 0 => List.prefix_refl _
  | d + 1 => by
    refine (zl_prefix r x k d).trans ?_
    show zl r x (k + d) <+: (if h : k + d < r.length ∧ ((r.getD (k + d) 0 : Nat) : Int) = x then zl r x (k + d) ++ [⟨k + d, h⟩] else zl r x (k + d))
    split
    · exact List.prefix_append _ _
    · exact List.prefix_refl _
theorem zl_val (r : List Nat) (x : Int) : ∀ k, k ≤ r.length → (zl r x k).map (·.val) = (List.range k).filter fun z => ((r.getD z 0 : Nat) : Int) == x
  | 0, _ => rfl
  | k + 1, hk => by
    rw [List.range_succ, List.filter_append, ← zl_val r x k (by omega)]
    by_cases h : ((r.getD k 0 : Nat) : Int) = x
    · rw [zl_yes ⟨by omega, h⟩, List.map_append]
      simp only [List.map_cons, List.map_nil, List.filter_cons, List.filter_nil]
      rw [if_pos (by rw [h]; simp)]
    · rw [zl_no h]
      simp only [List.filter_cons, List.filter_nil]
      rw [if_neg (by simpa using h), List.append_nil]
/-- What a round at zone z may not turn: the role that is sought, and the roles of the zones behind z. -/
structure KpZ (g B2 z : Nat) (W W' : World) : Prop where
  b : ∀ v, W.cell? ⟨B2, 0, none⟩ = some v → W'.cell? ⟨B2, 0, none⟩ = some v
  r : ∀ i, z < i → ∀ v, W.cell? ⟨g, i, none⟩ = some v → W'.cell? ⟨g, i, none⟩ = some v
theorem KpZ.of_fr {g B2 : Nat} {T : Nat → Prop} {W W' : World} (f : Fr T W W') (h1 : ¬ T g) (h2 : ¬ T B2) (z : Nat) : KpZ g B2 z W W' := ⟨fun v hv => f.cell hv h2, fun i _ v hv => f.cell hv h1⟩
set_option maxRecDepth 100000 in
set_option maxHeartbeats 2000000 in
theorem zones_in (n : Nat) (hn : 1 ≤ n) (y B1 B2 t g : Nat) (r : List Nat) (x : Int) (hr6 : r.length ≤ 64) (J Jx : List (Zx r x) → World → Prop)
    (hY : ∀ pre (z : Zx r x) W, J pre W → pre.length < r.length → YieldAt Fence.wide (n - 1) Try.prog y #[.int .i64 ((z.val : Nat) : Int)] W fun e W' =>
      (e = .returned (.bool true) ∧ J (pre ++ [z]) W' ∧ KpZ g B2 z.val W W') ∨ (e = .returned (.bool false) ∧ Jx (pre ++ [z]) W'))
    (W : World) (b1 : W.cell? ⟨B1, 0, none⟩ = some (.pointer (some ⟨t, 0, none⟩))) (b2 : W.cell? ⟨B2, 0, none⟩ = some (.int .i64 x)) (c0 : W.cell? ⟨t, 0, none⟩ = some (.slice (some ⟨g, 0, none⟩) r.length r.length))
    (cr : ∀ i, i < r.length → W.cell? ⟨g, i, none⟩ = some (.int .i64 ((r.getD i 0 : Nat) : Int))) (h0 : J [] W) :
    CallsIn Fence.wide n Try.prog 42 #[.func (.yield y) #[] #[], .pointer (some ⟨B1, 0, none⟩), .pointer (some ⟨B2, 0, none⟩)] W fun e W' => (∃ v, e = .returned v) ∧
      ((∃ ys, ys = zl r x r.length ∧ J ys W') ∨ (∃ pre, pre <+: zl r x r.length ∧ Jx pre W')) := by
  have HY := Lib.hid hY
  have HCR := Lib.hid cr
  obtain ⟨m, hm⟩ : ∃ m, r.length = m := ⟨_, rfl⟩
  rw [hm] at c0 hr6
  have HM := Lib.hid hm
  clear hY cr hm
  refine callsIn_of_wp Try.func42 rfl trivial ?_ rfl
  simp only [Try.ntmps42, List.size_toArray, List.length_cons, List.length_nil, Nat.reduceAdd, Nat.reduceSub, Array.replicate_succ, Array.replicate_zero, List.push_toArray, List.append_toArray, List.nil_append, List.cons_append]
  gi_wp2
  gi_loopw [11] (fun i wr => ∃ k : Nat, i = .int .i64 k ∧ k ≤ m ∧ J (zl r x k) wr ∧ wr.cell? ⟨B2, 0, none⟩ = some (.int .i64 x) ∧ ∀ j, k ≤ j → j < m → wr.cell? ⟨g, j, none⟩ = some (.int .i64 ((r.getD j 0 : Nat) : Int))) (fun i _ => m - (intOf i).toNat)
  case atStart => exact ⟨0, rfl, Nat.zero_le _, h0, b2, fun j _ hj => HCR.out j (by rw [HM.out]; exact hj)⟩
  case round =>
    clear h0
    obtain ⟨k, rfl, hk, hJ, hb2, hcr⟩ := hrel
    have HJ := Lib.hid hJ
    have HC := Lib.hid hcr
    by_cases h1 : k < m
    · have d1 : decide ((k : Int) < (m : Int)) = true := by rw [decide_eq_true_eq]; omega
      have ck := hcr k (Nat.le_refl _) h1
      clear hJ hcr
      by_cases h2 : ((r.getD k 0 : Nat) : Int) = x
      · have hz : k < r.length ∧ ((r.getD k 0 : Nat) : Int) = x := ⟨by rw [HM.out]; exact h1, h2⟩
        have hst := zl_yes hz
        have hy0 := HY.out (zl r x k) ⟨k, hz⟩ wr HJ.out (by have := zl_len r x k; have := HM.out; omega)
        have HST := Lib.hid hst
        rw [h2] at ck
        have dx : (x == x) = true := by simp
        clear hst h2
        obtain ⟨fn, tmps, assign, body, hy, hR⟩ := hy0
        have hy : (Instr.yield y #[.int .i64 (k : Int)]).run Try.prog wr = .ok (.round y fn tmps assign body) wr := hy
        gi_wp2
        refine hR.mono ?_
        rintro e W3 (⟨rfl, hJ3, hk3⟩ | ⟨rfl, hJx3⟩)
        · have HJ3 := Lib.hid hJ3
          have HK3 := Lib.hid hk3
          clear hJ3 hk3 hR hy
          gi_wp2
          go_roundw
          case rel => exact ⟨k + 1, by simp, by omega, by rw [HST.out]; exact HJ3.out, HK3.out.b _ hb2, fun j hj hjm => HK3.out.r j (by show k < j; omega) _ (HC.out j (by omega) hjm)⟩
          case measure => simp [intOf]; omega
        · have HJ3 := Lib.hid hJx3
          clear hJx3 hR hy
          gi_wp2
          refine bodyPost_ret (results_none rfl _ _ _) rfl ?_
          refine ⟨⟨_, rfl⟩, .inr ⟨_, ?_, HJ3.out⟩⟩
          rw [← HST.out, HM.out, show m = k + 1 + (m - (k + 1)) by omega]
          exact zl_prefix r x (k + 1) _
      · have HST := Lib.hid (zl_no h2)
        have dx : (((r.getD k 0 : Nat) : Int) == x) = false := by rw [beq_eq_false_iff_ne]; exact h2
        clear h2
        generalize ((r.getD k 0 : Nat) : Int) = yv at ck dx
        gi_wp2
        refine ⟨fun f h => absurd h (by simp), ?_⟩
        gi_wp2
        go_roundw
        case rel => exact ⟨k + 1, by simp, by omega, by rw [HST.out]; exact HJ.out, hb2, fun j hj hjm => HC.out j (by omega) hjm⟩
        case measure => simp [intOf]; omega
    · have hkc : k = m := by omega
      subst hkc
      have d1 : decide ((k : Int) < (k : Int)) = false := by simp
      clear hJ hcr
      gi_wp2
      go_end0
      exact ⟨⟨_, rfl⟩, .inl ⟨_, by rw [HM.out], HJ.out⟩⟩
end Go.Proofs.Ytmkadpjacidlkaa
