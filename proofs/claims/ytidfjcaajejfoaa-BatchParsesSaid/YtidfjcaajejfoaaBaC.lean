/-
  Layer 10: the law's ref: the same ops as the document's.
-/
import Derived.Test.YtidfjcaajejfoaaBaB
namespace Go.Proofs.Ytidfjcaajejfoaa
set_option linter.unusedVariables false
open Go.RowKit

/-- A row of ops of the call's own comes back, and nothing that was there has turned. -/
def NewOps (ty : TypeId) (l : List Op10) (w : World) (e : Ending) (w' : World) : Prop := ∃ v, e = .returned v ∧ RowG w' (Gr No w w') ty 3 v l.length (opsC l) ∧ Fr No w w'
theorem rowOpR : RowT Try.prog 27 34 (.agg #[.int .i64 0, .string ⟨#[]⟩, .string ⟨#[]⟩]) 3 40 := ⟨Try.underlying27, by kernel_rfl, rfl, by decide⟩
theorem take_op (l : List Op10) (k : Nat) (h : k < l.length) : l.take (k + 1) = l.take k ++ [l.getD k op0] := by
  rw [List.take_add_one, List.getElem?_eq_getElem h, getD_op l k h]
  rfl
theorem RowG.grow {w w1 w2 : World} {e : TypeId} {k : Nat} {v : Value} {n : Nat} {cs : List Value} (h : RowG w1 (Gr No w w1) e k v n cs) (f : Fr No w1 w2) : RowG w2 (Gr No w w2) e k v n cs :=
  (h.keep f fun _ _ h => h).sub fun x _ hx => by
    rcases hx with hx | hx
    · exact hx.elim
    · exact .inr ⟨hx.1, Nat.lt_of_lt_of_le hx.2 f.size⟩
set_option maxRecDepth 20000 in
set_option maxHeartbeats 1600000 in
theorem ref10_c (a : Option Addr) (cap : Nat) (l : List Op10) (w : World) (S : Nat → Prop) (hm : l.length ≤ 1000000) (hi : Ops w S a l) :
    Calls Try.prog 11 #[.slice a l.length cap] w (NewOps 34 l w) := by
  obtain ⟨len, hlen⟩ : ∃ len, l.length = len := ⟨_, rfl⟩
  have HFIN : Hid (∀ v w', RowG w' (Gr No w w') 34 3 v (l.take len).length (opsC (l.take len)) → Fr No w w' → NewOps 34 l w (.returned v) w') := Lib.hid fun v w' h1 h2 => by
    rw [List.take_of_length_le (by omega)] at h1
    exact ⟨v, rfl, h1, h2⟩
  rw [hlen] at hm ⊢
  have HL := Lib.hid hlen
  have HI := Lib.hid hi
  clear hi hlen
  go_enter Try.func11, Try.ntmps11
  go_wp2_with fail
  go_loopw [3, 8] (fun vo i wr => ∃ k : Nat, i = .int .i64 k ∧ k ≤ len ∧ RowG wr (Gr No w wr) 34 3 vo (l.take k).length (opsC (l.take k)) ∧ Fr No w wr) (fun _ i _ => len - (intOf i).toNat)
  case atStart => exact ⟨0, rfl, Nat.zero_le _, RowG.nil _ _ _ _, Fr.refl _ _⟩
  case round =>
    obtain ⟨k, rfl, hk, hrow, hfr⟩ := hrel
    obtain ⟨va, vc, rfl, _, _, _, _⟩ := hrow.form
    have HR := Lib.hid hrow
    have HF := Lib.hid hfr
    clear hrow hfr
    by_cases hlt : k < len
    · have hkl : k < l.length := by rw [HL.out]; exact hlt
      obtain ⟨b, o, _, rfl, hx⟩ := HI.out (by omega)
      have hx := (hx k hkl).keep HF.out (fun h => h)
      have HT := Lib.hid (take_op l k hkl)
      have HTL : Hid ((l.take k).length = k) := Lib.hid (by rw [List.length_take]; omega)
      generalize l.getD k op0 = x at hx HT
      obtain ⟨c0, c1, c2⟩ := hx
      have hf1 : Fr No wr (wr.alloc (.cells #[.int .i64 x.k, .string x.key, .string x.val] 30)) := (Fr.refl _ _).alloc _
      obtain ⟨v', w', hrun, hrow', hfr'⟩ := push_op rowOpR (by decide) w (wr.alloc (.cells #[.int .i64 x.k, .string x.key, .string x.val] 30)) _ (l.take k) x (HR.out.grow hf1) (HF.out.trans hf1) (by rw [HTL.out]; omega)
      have hsz : (wr.alloc (.cells #[.int .i64 x.k, .string x.key, .string x.val] 30)).heap.size = wr.heap.size + 1 := by simp [World.alloc, -World.alloc_eq]
      rw [HTL.out, hsz] at hrun
      have HRUN := Lib.hid hrun
      have HR2 := Lib.hid hrow'
      have HF2 := Lib.hid hfr'
      rw [HTL.out]
      clear hrun hrow' hfr' hf1
      go_wp2_with (at_builtin; refine wpList_append_run rfl _ _ 27 rfl rfl rfl HRUN.out ?_)
      go_roundw
      case rel => exact ⟨k + 1, by simp, by omega, by rw [HT.out]; exact HR2.out, HF2.out⟩
      case measure => simp [intOf]; omega
    · have hk' : k = len := by omega
      have HTL : Hid ((l.take k).length = k) := Lib.hid (by rw [List.length_take, HL.out]; omega)
      have HE : Hid (NewOps 34 l w (.returned (.slice va (l.take k).length vc)) wr) := Lib.hid (by
        refine HFIN.out _ _ ?_ HF.out
        rw [← hk']
        exact HR.out)
      rw [HTL.out] at HE ⊢
      clear hk'
      go_wp2_with fail
      go_ret
      exact HE.out
end Go.Proofs.Ytidfjcaajejfoaa
