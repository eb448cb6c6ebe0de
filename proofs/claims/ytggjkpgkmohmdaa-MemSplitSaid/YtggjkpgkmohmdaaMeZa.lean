/-
  Layer 11: MemSplit: batches cut in two; what two tables tell together.
-/
import Derived.Test.YtggjkpgkmohmdaaMeV
import Derived.Test.YtggjkpgkmohmdaaMeR
import Derived.Test.YtggjkpgkmohmdaaMemB
namespace Go.Proofs.Ytggjkpgkmohmdaa
set_option linter.unusedVariables false
open Go.RowKit

theorem size_bt (w : World) : (sizeOf 58).run Try.prog w = .ok 2 w := by kernel_rfl
/-- The address of 'l[k:]'. -/
def cutB (a : Option Addr) (k cap : Nat) : Option Addr := if cap = k then a else a.map (·.add (k * 2))
theorem cutB_zero (a : Option Addr) (cap : Nat) : cutB a 0 cap = a := by
  unfold cutB
  split
  · rfl
  · cases a <;> simp [Addr.add]
theorem cutB_hi (a : Option Addr) (len cap hi : Nat) (h2 : hi ≤ cap) (w : World) :
    (Instr.slice 22 (.slice a len cap) none (some (.int .i64 (hi : Int))) none).run Try.prog w = .ok (.slice a hi cap) w := by
  have he : Try.prog.elem 22 = 58 := by simp [Program.elem, Try.underlying22]
  have ht' : Try.prog.underlying 22 = some (.slice (Try.prog.elem 22)) := by rw [he]; exact Try.underlying22
  rw [run_slice_h w 22 a len cap ht' .i64 hi (by omega) (by omega), he, size_bt]
  have := cutB_zero a cap
  simp [Result.andThen, sliced]
  simpa [cutB] using this
theorem cutB_lo (a : Option Addr) (len cap lo : Nat) (h1 : lo ≤ len) (w : World) :
    (Instr.slice 22 (.slice a len cap) (some (.int .i64 (lo : Int))) none none).run Try.prog w = .ok (.slice (cutB a lo cap) (len - lo) (cap - lo)) w := by
  have he : Try.prog.elem 22 = 58 := by simp [Program.elem, Try.underlying22]
  have ht' : Try.prog.underlying 22 = some (.slice (Try.prog.elem 22)) := by rw [he]; exact Try.underlying22
  rw [run_slice_l w 22 a len cap ht' .i64 lo (by omega) (by omega), he, size_bt]
  simp [Result.andThen, sliced, cutB]
theorem getD_take_bt (l : List Bt) (k i : Nat) (h : i < k) : (l.take k).getD i bt0 = l.getD i bt0 := by
  simp [List.getD, h]
theorem getD_drop_bt (l : List Bt) (k i : Nat) : (l.drop k).getD i bt0 = l.getD (k + i) bt0 := by
  simp [List.getD, List.getElem?_drop]
theorem Bts.take {w : World} {S : Nat → Prop} {a : Option Addr} {l : List Bt} (h : Bts w S a l) (k : Nat) : Bts w S a (l.take k) := fun hl => by
  have hl' : 0 < l.length := by simp at hl; omega
  obtain ⟨b, o, hb, ha, hc⟩ := h hl'
  refine ⟨b, o, hb, ha, fun i hi => ?_⟩
  have hi' : i < k ∧ i < l.length := by simp at hi; omega
  rw [getD_take_bt l k i hi'.1]
  exact hc i hi'.2
theorem Bts.drop {w : World} {S : Nat → Prop} {a : Option Addr} {l : List Bt} (h : Bts w S a l) (k cap : Nat) (hcap : l.length ≤ cap) : Bts w S (cutB a k cap) (l.drop k) := fun hl => by
  have hl' : k < l.length := by simp at hl; omega
  obtain ⟨b, o, hb, rfl, hc⟩ := h (by omega)
  refine ⟨b, o + k * 2, hb, ?_, fun i hi => ?_⟩
  · unfold cutB
    rw [if_neg (by omega)]
    unfold Addr.add
    by_cases h0 : k = 0
    · simp [h0]
    · have : ¬ k * 2 = 0 := by omega
      simp [this]
  · have hi' : k + i < l.length := by simp at hi; omega
    rw [getD_drop_bt l k i, show o + k * 2 + i * 2 = o + (k + i) * 2 by omega]
    exact hc (k + i) hi'
theorem youngM_len (o m : Mt) (b : Bt) (h : b.l.length ≤ 70) : (youngM o m b).es.length ≤ m.es.length + 70 := by
  unfold youngM
  split
  · unfold applyM
    split
    · rw [putAll_len]
      omega
    · omega
  · omega
theorem youngs_len (o : Mt) : ∀ (l : List Bt) (m : Mt), (∀ b ∈ l, b.l.length ≤ 70) → (l.foldl (youngM o) m).es.length ≤ m.es.length + l.length * 70
  | [], m, _ => by simp
  | b :: l, m, h => by
    have h1 := youngM_len o m b (h b (List.mem_cons_self ..))
    have h2 := youngs_len o l (youngM o m b) fun c hc => h c (List.mem_cons_of_mem _ hc)
    rw [List.foldl_cons, List.length_cons]
    omega
/-- What the one table tells is what the newer one tells, or else the older one. -/
theorem split_get {a y o : Mt} (h : Split a y o) (u : ByteArray) (at_ : Int) :
    (0 ≤ getE y.es u at_ → 0 ≤ getE a.es u at_ ∧ entAt a (getE a.es u at_) = entAt y (getE y.es u at_)) ∧
    (¬ 0 ≤ getE y.es u at_ → decide (0 ≤ getE a.es u at_) = decide (0 ≤ getE o.es u at_) ∧ entAt a (getE a.es u at_) = entAt o (getE o.es u at_)) := by
  have ht := h.top u at_
  have key : ∀ m : Mt, (0 ≤ getE m.es u at_ ∧ topE m.es u at_ = some (entAt m (getE m.es u at_))) ∨ (¬ 0 ≤ getE m.es u at_ ∧ topE m.es u at_ = none ∧ entAt m (getE m.es u at_) = ent0) := fun m => by
    unfold topE entAt
    by_cases h0 : getE m.es u at_ < 0
    · rw [if_pos h0, if_pos h0]
      exact .inr ⟨by omega, rfl, rfl⟩
    · rw [if_neg h0, if_neg h0]
      exact .inl ⟨by omega, rfl⟩
  rcases key a with ⟨a1, a2⟩ | ⟨a1, a2, a3⟩ <;> rcases key y with ⟨y1, y2⟩ | ⟨y1, y2, y3⟩ <;> rcases key o with ⟨o1, o2⟩ | ⟨o1, o2, o3⟩ <;> rw [a2, y2, o2] at ht <;> simp at ht <;> simp [*]
end Go.Proofs.Ytggjkpgkmohmdaa
