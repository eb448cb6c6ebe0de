/-
  Layer 11: the statements' fixed answer.
-/
import Derived.Test.YtggjkpgkmohmdaaMeS
namespace Go.Proofs.Ytggjkpgkmohmdaa
set_option linter.unusedVariables false
open Go.RowKit

def sA : ByteArray := ⟨#[97]⟩
def sX : ByteArray := ⟨#[120]⟩
def oA : Op10 := ⟨1, sA, sX⟩
def mA : Mt := ⟨[⟨sA, 1, 1, sX⟩], 1⟩
theorem applyE_oA : applyE newMt 1 [oA] = 0 := by decide
theorem applyM_oA : applyM newMt 1 [oA] = mA := by
  unfold applyM
  rw [if_pos applyE_oA]
  rfl
theorem getE_mA : getE mA.es sA 1 = 0 := by decide
theorem ops_oA (w : World) (t : TypeId) (fr : Nat × Nat) : Ops (w.alloc (.cells #[.int .i64 1, .string sA, .string sX] t fr)) (One w.heap.size) (some ⟨w.heap.size, 0, none⟩) [oA] := fun _ => by
  refine ⟨_, 0, rfl, rfl, fun i hi => ?_⟩
  have e : i = 0 := by simpa using hi
  subst e
  refine ⟨?_, ?_, ?_⟩
  · rw [cell_of_row _ _ _ _ t fr (heap_alloc_new w _)]; rfl
  · rw [cell_of_row _ _ _ _ t fr (heap_alloc_new w _)]; rfl
  · rw [cell_of_row _ _ _ _ t fr (heap_alloc_new w _)]; rfl
theorem apply_oA {D : World → Nat → (Nat → Prop) → Mt → Prop} (H : MemOK D) (w : World) (t : Nat) (F : Nat → Prop) (hd : D w t F newMt) (ty : TypeId) (fr : Nat × Nat) :
    Calls Try.prog 19 #[.pointer (some ⟨t, 0, none⟩), .agg #[.int .i64 1, .slice (some ⟨w.heap.size, 0, none⟩) 1 1], .slice none 0 0] (w.alloc (.cells #[.int .i64 1, .string sA, .string sX] ty fr))
      fun e w' => e = .returned (.int .i64 0) ∧ ∃ F', D w' t F' mA ∧ (∀ k, F' k → F k ∨ w.heap.size ≤ k) ∧ Fr F w w' := by
  have f : Fr F w (w.alloc (.cells #[.int .i64 1, .string sA, .string sX] ty fr)) := (Fr.refl F w).alloc _
  have f0 : Fr No w (w.alloc (.cells #[.int .i64 1, .string sA, .string sX] ty fr)) := (Fr.refl No w).alloc _
  have q := H.apply (w.alloc (.cells #[.int .i64 1, .string sA, .string sX] ty fr)) t F newMt 1 (some ⟨w.heap.size, 0, none⟩) 1 1 [oA] (One w.heap.size) none 0 0 []
    (H.keep hd f0 fun _ _ h => h) (by simp [newMt]) (by decide) rfl (by omega) (by unfold maxLen; omega) (ops_oA w ty fr)
    (fun k hk hF => by have := H.low hd k hF; unfold One at hk; omega)
    (fun x hx => by rw [List.mem_singleton] at hx; subst hx; exact ⟨by decide, by decide, by decide⟩) rfl (by omega) (by unfold maxLen; omega) (fun h => absurd h (by simp)) (fun b o h _ => by cases h)
  rw [applyE_oA, applyM_oA] at q
  refine q.mono ?_
  rintro e w' ⟨rfl, F', h1, h2, h3⟩
  exact ⟨rfl, F', h1, fun k hk => (h2 k hk).elim .inl fun h => .inr (Nat.le_trans f.size h), f.trans h3⟩
set_option maxRecDepth 20000 in
set_option maxHeartbeats 1600000 in
theorem awake11_c {D : World → Nat → (Nat → Prop) → Mt → Prop} (H : MemOK D) (w : World) : Calls Try.prog 9 #[] w (Ask (.bool true) w) := by
  have HH := Lib.hid H
  have C0 := Lib.hid (H.new w)
  clear H
  go_enter Try.func9, Try.ntmps9
  go_wp2_with fail
  refine (show Calls _ _ _ _ _ from C0.out).mono ?_
  rintro e w1 ⟨t, F, rfl, hd, hF, hf⟩
  have HF1 := Lib.hid hf
  have C1 := Lib.hid (HH.out.last w1 t F _ hd)
  have HD1 := Lib.hid hd
  clear hf hd C0
  go_wp2_with fail
  refine (show Calls _ _ _ _ _ from C1.out).mono ?_
  rintro e w2 ⟨rfl, hf⟩
  have HD2 := Lib.hid (HH.out.keep HD1.out hf fun _ _ h => h)
  have HF2 := Lib.hid (HF1.out.trans hf)
  have C2 := Lib.hid (apply_oA HH.out w2 t F HD2.out)
  have HS2 := Lib.hid (show w1.heap.size ≤ w2.heap.size from hf.size)
  clear hf C1 HD1
  have hl : newMt.last = -1 := rfl
  rw [hl]
  go_wp2_with fail
  refine (show Calls _ _ _ _ _ from C2.out _ _).mono ?_
  rintro e w3 ⟨rfl, F', hd, hk, hf⟩
  have HF3 : Hid (Fr No w w3) := Lib.hid (HF2.out.then_ hf fun k hk h => by have := hF k h; omega)
  have HD3 := Lib.hid hd
  have C3 := Lib.hid (HH.out.get w3 t F' mA sA 1 hd (by decide) (by decide) (by decide))
  clear C2 HD2
  go_wp2_with fail
  refine (show Calls _ _ _ _ _ from C3.out).mono ?_
  rintro e w4 ⟨rfl, hf4⟩
  have HD4 := Lib.hid (HH.out.keep HD3.out hf4 fun _ _ h => h)
  have HF4 := Lib.hid (HF3.out.trans hf4)
  have hv : (Value.tuple #[entV (entAt mA (getE mA.es sA 1)), .bool (decide (0 ≤ getE mA.es sA 1))]) = .tuple #[.agg #[.string sA, .int .i64 1, .int .i64 1, .string sX], .bool true] := by
    rw [getE_mA]
    rfl
  rw [hv]
  have C4 : Hid (∀ w', Fr No w4 w' → Calls Try.prog 21 #[.pointer (some ⟨t, 0, none⟩)] w' (Ask (.int .i64 1) w')) := Lib.hid fun w' f => HH.out.len w' t F' mA (HH.out.keep HD4.out f fun _ _ h => h)
  have C5 : Hid (∀ w', Fr No w4 w' → Calls Try.prog 23 #[.pointer (some ⟨t, 0, none⟩)] w' (Ask (.int .i64 1) w')) := Lib.hid fun w' f => HH.out.last w' t F' mA (HH.out.keep HD4.out f fun _ _ h => h)
  clear C3 HD3 hf4 hv hf hd hk hF
  have hX : sX.toList = [120] := by rw [ByteArray.toList_eq]; rfl
  go_wp2_with fail
  refine (show Calls _ _ _ _ _ from C4.out _ ((Fr.refl No w4).alloc _)).mono ?_
  rintro e w5 ⟨rfl, hf5⟩
  have HF5 : Hid (Fr No w4 w5) := Lib.hid (((Fr.refl No w4).alloc _).trans hf5)
  clear hf5 C4
  go_wp2_with fail
  refine (show Calls _ _ _ _ _ from C5.out _ HF5.out).mono ?_
  rintro e w6 ⟨rfl, hf6⟩
  have HF6 : Hid (Fr No w w6) := Lib.hid (HF4.out.trans (HF5.out.trans hf6))
  clear hf6 C5
  go_wp2_with fail
  go_ret
  exact ⟨rfl, HF6.out⟩
end Go.Proofs.Ytggjkpgkmohmdaa
