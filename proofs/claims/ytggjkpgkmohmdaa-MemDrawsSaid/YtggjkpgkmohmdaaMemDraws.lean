/-
  The statement of tithebarnlaw11.MemDraws: for every input the call returns true, and its arguments read behind it as ahead of it.
-/
import Derived.Test.YtggjkpgkmohmdaaMeV
import Derived.Test.YtggjkpgkmohmdaaMmO
import Derived.Test.YtggjkpgkmohmdaaMeO
import Derived.WalkKit
import Derived.ProofKit
import Derived.OpenShut
namespace Go.Proofs.Ytggjkpgkmohmdaa.memDraws
open Go.ChangeShapes Go.WideShapes Go.ChangeAt Go.RowKit
set_option linter.unusedVariables false

theorem own : ownKnob Try.prog.godebug = none := by kernel_rfl
theorem laidOut : laidOutB Try.prog = true := by kernel_rfl
theorem types : ∀ t ∈ Try.f4.params.toList, Try.prog.readableRec t = true ∧ t < Try.prog.types.size := by
  rw [Try.params4]
  intro t ht
  simp only [List.mem_cons, List.not_mem_nil, or_false] at ht
  rcases ht with rfl | rfl | rfl
  all_goals exact ⟨by kernel_rfl, of_decide_eq_true (by kernel_rfl)⟩

set_option maxRecDepth 100000 in
theorem lifted (os : Os) (started : os.Started) (H : Type) (enc : TypeId × Value → H) :
    ReturnsInHanded {} Try.checked os 4 .any (Rows.memDrawsSpec.pre6 enc Try.prog Try.f4 Rows.memDrawsRow.domain false) (Rows.memDrawsSpec.post enc Try.prog Try.f4 false true false false) := by
  refine returnsInHanded_of_change (C := Try.checked) own started (by kernel_rfl) Try.func4
    (ChangeSpec.witness6 (enc := enc) (C := Try.checked) false ⟨#[], #[.slice none 0 0, .slice none 0 0, .slice none 0 0], []⟩ 8 (by kernel_rfl) (by kernel_rfl) (by kernel_rfl) (by kernel_rfl)) ?_
  intro W base args ds gs before hval0 hW hcnd _
  have hval : ∀ (j : Nat) t v, Try.f4.params[j]? = some t → args[j]? = some v → Value.okWide Try.prog W .any base t v := hval0
  have hW' := hW
  obtain ⟨p, q, hA0, hV, rfl, hfz, hnd⟩ := hW
  have hA : DataW.TrodAll enc Try.prog W 0 (fun _ => true) true Try.f4.params.toList args.toList ds p := hA0
  rw [Try.params4] at hA hval
  obtain ⟨v0, vs0, d0, ds0, p0, q0, hargs, rfl, rfl, h0, r0⟩ := trodAll_cons hA
  obtain ⟨v1, vs1, d1, ds1, p1, q1, rfl, rfl, rfl, h1, r1⟩ := trodAll_cons r0
  obtain ⟨v2, vs2, d2, ds2, p2, q2, rfl, rfl, rfl, h2, r2⟩ := trodAll_cons r1
  obtain ⟨rfl, rfl, rfl⟩ := trodAll_nil r2
  obtain rfl : args = #[v0, v1, v2] := by cases args; simp_all
  obtain ⟨rfl, rfl⟩ := trodVars_none hV
  obtain ⟨fu0, y0, g0⟩ := slice_trod Try.underlying22 (hval 0 22 v0 rfl rfl) h0
  obtain ⟨a0, c0, l0, rfl, hc0, hm0, rd0, wf0⟩ := batches_of g0
  obtain ⟨fu1, y1, g1⟩ := slice_trod Try.underlying23 (hval 1 23 v1 rfl rfl) h1
  obtain ⟨a1, c1, l1, rfl, hc1, hm1, rd1⟩ := ints_of g1
  obtain ⟨fu2, y2, g2⟩ := slice_trod Try.underlying23 (hval 2 23 v2 rfl rfl) h2
  obtain ⟨a2, c2, l2, rfl, hc2, hm2, rd2⟩ := ints_of g2
  refine (memDraws_walk memOK W a0 c0 l0 hc0 hm0 rd0 wf0 a1 c1 l1 hc1 hm1 rd1 a2 c2 l2 hc2 hm2 rd2).mono fun e W' ⟨he, hb⟩ => ?_
  subst he
  exact ⟨_, rfl, law_post laidOut types (by kernel_rfl) Try.underlying4 rfl (fun gs' _ => by subst gs'; rfl) hW' hb⟩

/-- THE STATEMENT. -/
theorem said : Rows.MemDrawsSaid :=
  OpenClaim.holds_of_wide 4 Try.f4 rfl rfl rfl rfl rfl rfl rfl ⟨rfl, rfl, rfl, rfl, rfl⟩ rfl rfl rfl rfl rfl (by kernel_rfl) Try.func4 (by kernel_rfl)
    (of_decide_eq_true (by kernel_rfl)) (by unfold Func.isWrapper; first | (rw [if_pos (by decide +kernel)]; kernel_rfl) | (rw [if_neg (by decide +kernel)]; exact ⟨rfl, rfl⟩))
    (fun os started H enc _ => lifted os started H enc)
#print axioms said
end Go.Proofs.Ytggjkpgkmohmdaa.memDraws
