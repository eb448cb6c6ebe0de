/-
  Layer 12: the statements' fixed answer.
-/
import Derived.Test.YtiacdakaolghmaaBkX
namespace Go.Proofs.Ytiacdakaolghmaa
set_option linter.unusedVariables false
open Go.RowKit

def p12a : Pr := ⟨⟨#[97, 98]⟩, ⟨#[49]⟩⟩
def p12b : Pr := ⟨⟨#[97, 98, 99]⟩, ⟨#[50]⟩⟩
theorem ord12 : ordP [p12a, p12b] := by
  intro i h1 h2
  have : i = 1 := by simp at h2; omega
  subst this
  decide
theorem head12a : headN 16 [p12a, p12b] 0 = 0 := by decide
theorem head12b : headN 16 [p12a, p12b] 1 = 2 := by decide
theorem block12 : blockB 16 [p12a, p12b] = [0, 2, 1, 97, 98, 49, 2, 1, 1, 99, 50, 0, 0, 0, 0, 0, 0, 0, 1, 16] := by
  have e0 : enc 0 = [0] := enc_small (by omega)
  have e1 : enc 1 = [1] := enc_small (by omega)
  have e2 : enc 2 = [2] := enc_small (by omega)
  have q0 : pairB 16 [p12a, p12b] 0 = [0, 2, 1, 97, 98, 49] := by
    unfold pairB
    rw [head12a]
    show enc 0 ++ (enc 2 ++ (enc 1 ++ _)) = _
    rw [e0, e1, e2]
    rfl
  have q1 : pairB 16 [p12a, p12b] 1 = [2, 1, 1, 99, 50] := by
    unfold pairB
    rw [head12b]
    show enc 2 ++ (enc 1 ++ (enc 1 ++ _)) = _
    rw [e1, e2]
    rfl
  have s2 : startsN 16 [p12a, p12b] 2 = [0] := rfl
  show ((([] ++ pairB 16 [p12a, p12b] 0) ++ pairB 16 [p12a, p12b] 1 ++ wordsB (startsN 16 [p12a, p12b] 2)) ++ word4 (startsN 16 [p12a, p12b] 2).length) ++ _ = _
  rw [q0, q1, s2]
  decide
theorem build12 : buildE [p12a, p12b] 16 = 0 ∧ buildB [p12a, p12b] 16 = [0, 2, 1, 97, 98, 49, 2, 1, 1, 99, 50, 0, 0, 0, 0, 0, 0, 0, 1, 16] := by
  have e : buildE [p12a, p12b] 16 = 0 := by
    unfold buildE
    rw [if_neg (by omega), if_pos ord12]
  refine ⟨e, ?_⟩
  unfold buildB
  rw [if_pos e]
  exact block12
theorem sh12 : shL (bs ⟨#[97, 98, 99]⟩) (bs ⟨#[97, 98, 100]⟩) = 2 := by decide
theorem prs12 (w : World) (t : TypeId) : Prs (w.alloc (.cells #[.string ⟨#[97, 98]⟩, .string ⟨#[49]⟩, .string ⟨#[97, 98, 99]⟩, .string ⟨#[50]⟩] t)) (One w.heap.size) (some ⟨w.heap.size, 0, none⟩) [p12a, p12b] := fun _ => by
  refine ⟨_, 0, rfl, rfl, fun i hi => ?_⟩
  have h : i = 0 ∨ i = 1 := by simp at hi; omega
  rcases h with rfl | rfl
  · exact ⟨by rw [cell_of_row _ _ _ _ t (0, 0) (heap_alloc_new w _)]; rfl, by rw [cell_of_row _ _ _ _ t (0, 0) (heap_alloc_new w _)]; rfl⟩
  · exact ⟨by rw [cell_of_row _ _ _ _ t (0, 0) (heap_alloc_new w _)]; rfl, by rw [cell_of_row _ _ _ _ t (0, 0) (heap_alloc_new w _)]; rfl⟩
set_option maxRecDepth 20000 in
set_option maxHeartbeats 1600000 in
theorem awake12_c {X : World → Nat → (Nat → Prop) → List Pr → Nat → Prop} (H : BlockOK X) (w : World) : Calls Try.prog 10 #[] w (PlainRet (.bool true) w) := by
  have C0 := Lib.hid (H.build (w.alloc (.cells #[.string ⟨#[97, 98]⟩, .string ⟨#[49]⟩, .string ⟨#[97, 98, 99]⟩, .string ⟨#[50]⟩] 39)) (One w.heap.size) (some ⟨w.heap.size, 0, none⟩) 2 2 [p12a, p12b] 16 rfl (by omega) (by unfold maxLen; omega) (by omega)
    (fun i hi => by
      have h : i = 0 ∨ i = 1 := by simp at hi; omega
      rcases h with rfl | rfl <;> decide) (prs12 w _) (by decide))
  have HA : Hid (Fr No w (w.alloc (.cells #[.string ⟨#[97, 98]⟩, .string ⟨#[49]⟩, .string ⟨#[97, 98, 99]⟩, .string ⟨#[50]⟩] 39))) := Lib.hid ((Fr.refl _ _).alloc _)
  have C1 : Hid (∀ w, Calls Try.prog 24 #[.string ⟨#[97, 98, 99]⟩, .string ⟨#[97, 98, 100]⟩] w (PlainRet (.int .i64 2) w)) := Lib.hid fun w => by
    have h := H.shared w ⟨#[97, 98, 99]⟩ ⟨#[97, 98, 100]⟩ (by decide) (by decide)
    rw [sh12] at h
    exact h
  clear H
  go_enter Try.func10, Try.ntmps10
  go_wp2_with fail
  refine (show Calls _ _ _ _ _ from C0.out).mono ?_
  rintro e w1 ⟨v, rfl, hrow, hf⟩
  rw [build12.1]
  rw [build12.2] at hrow
  obtain ⟨a, cap, rfl, _, _, hin⟩ := hrow.form
  have hcv := conv_rd w1 a 20 cap _ rfl hin.rd
  have hst : strOf [0, 2, 1, 97, 98, 49, 2, 1, 1, 99, 50, 0, 0, 0, 0, 0, 0, 0, 1, 16] = ⟨#[0, 2, 1, 97, 98, 49, 2, 1, 1, 99, 50, 0, 0, 0, 0, 0, 0, 0, 1, 16]⟩ := rfl
  rw [hst] at hcv
  have HF := Lib.hid (HA.out.trans hf)
  clear hrow hin hf hst C0 HA
  rw [show ([0, 2, 1, 97, 98, 49, 2, 1, 1, 99, 50, 0, 0, 0, 0, 0, 0, 0, 1, 16] : List UInt8).length = 20 from rfl]
  go_wp2_with fail
  refine (show Calls _ _ _ _ _ from C1.out _).mono ?_
  rintro e w2 ⟨rfl, hf2⟩
  go_wp2_with fail
  go_ret
  exact ⟨rfl, HF.out.trans hf2⟩
end Go.Proofs.Ytiacdakaolghmaa
