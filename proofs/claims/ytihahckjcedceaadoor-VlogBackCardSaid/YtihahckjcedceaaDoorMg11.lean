/-
  Texts of layer 14 and of what it stands on, one behind the other.
-/
import Derived.Test.YtihahckjcedceaaDoorMg08

/- Contracts of layer 2's reader: take, NewReader. -/
namespace Go.Proofs.YtihahckjcedceaaDoor
set_option linter.unusedVariables false
open Go.RowKit

/-- A reader at block B, in state st: what is left lies within S. -/
def Rr (w : World) (B : Nat) (S : Nat → Prop) (st : St) : Prop :=
  ∃ a cap, At w B 108 #[.slice a st.1.length cap, .bool st.2] ∧ st.1.length ≤ cap ∧ cap ≤ maxLen ∧ In w S a st.1 ∧ ¬ S B
theorem Rr.keep {w w' : World} {B : Nat} {S T : Nat → Prop} {st : St} (h : Rr w B S st) (f : Fr T w w') (hB : ¬ T B) (hS : ∀ k, S k → ¬ T k) : Rr w' B S st := by
  obtain ⟨a, cap, h1, h2, h3, h4, h5⟩ := h
  exact ⟨a, cap, h1.keep f hB, h2, h3, h4.keep f hS, h5⟩
theorem Rr.lt {w : World} {B : Nat} {S : Nat → Prop} {st : St} (h : Rr w B S st) : B < w.heap.size := by
  obtain ⟨a, cap, h1, _⟩ := h
  exact h1.lt
theorem Rr.len {w : World} {B : Nat} {S : Nat → Prop} {st : St} (h : Rr w B S st) : st.1.length ≤ maxLen := by
  obtain ⟨a, cap, h1, h2, h3, _⟩ := h
  omega
/-- A slice comes back that reads l, and the reader is in state st'. -/
def SliceRet (B : Nat) (S : Nat → Prop) (l : List UInt8) (st' : St) (w : World) (e : Ending) (w' : World) : Prop :=
  ∃ a cap, e = .returned (.slice a l.length cap) ∧ In w' S a l ∧ Rr w' B S st' ∧ Fr (One B) w w'
def StRet (v : Value) (B : Nat) (S : Nat → Prop) (st' : St) (w : World) (e : Ending) (w' : World) : Prop :=
  e = .returned v ∧ Rr w' B S st' ∧ Fr (One B) w w'

theorem cut_three {t e : TypeId} (ht : Tryd.prog.underlying t = some (.slice e)) (hz : ∀ w, (sizeOf e).run Tryd.prog w = .ok 1 w) (a : Option Addr) (len cap lo hi : Nat) (h1 : lo ≤ hi) (h2 : hi ≤ cap) (w : World) :
    (Instr.slice t (.slice a len cap) (some (.int .i64 (lo : Int))) (some (.int .i64 (hi : Int))) (some (.int .i64 (hi : Int)))).run Tryd.prog w = .ok (.slice (cutAt a lo hi) (hi - lo) (hi - lo)) w := by
  have he : Tryd.prog.elem t = e := by simp [Program.elem, ht]
  have ht' : Tryd.prog.underlying t = some (.slice (Tryd.prog.elem t)) := by rw [he]; exact ht
  rw [run_slice_lhm w t a len cap ht' .i64 .i64 .i64 lo hi hi (by omega) (by omega) (by omega) (by omega), he, hz]
  simp [Result.andThen, sliced, cutAt]
theorem sizeU8 (w : World) : (sizeOf 5).run Tryd.prog w = .ok 1 w := by kernel_rfl
theorem In.cut {w : World} {S : Nat → Prop} {a : Option Addr} {l : List UInt8} (h : In w S a l) (lo n : Nat) (hn : lo + n ≤ l.length) : In w S (cutAt a lo (lo + n)) ((l.drop lo).take n) := by
  by_cases h0 : n = 0
  · subst h0
    rw [List.take_zero]
    exact In.nil _ _ _
  · have h1 := h.drop lo (lo + n + l.length) (by omega)
    have e : cutAt a lo (lo + n + l.length) = cutAt a lo (lo + n) := by
      unfold cutAt
      rw [if_neg (by omega), if_neg (by omega)]
    rw [e] at h1
    exact h1.take n

set_option maxRecDepth 20000 in
/-- A slice comes back, as above; how far it may be cut. -/
def SliceRetC (B : Nat) (S : Nat → Prop) (l : List UInt8) (st' : St) (w : World) (e : Ending) (w' : World) : Prop :=
  ∃ a cap, e = .returned (.slice a l.length cap) ∧ In w' S a l ∧ Rr w' B S st' ∧ Fr (One B) w w' ∧ l.length ≤ cap ∧ cap ≤ maxLen
theorem SliceRetC.ret {B : Nat} {S : Nat → Prop} {l : List UInt8} {st' : St} {w : World} {e : Ending} {w' : World} (h : SliceRetC B S l st' w e w') : SliceRet B S l st' w e w' := by
  obtain ⟨a, cap, h1, h2, h3, h4, _⟩ := h
  exact ⟨a, cap, h1, h2, h3, h4⟩
set_option maxHeartbeats 400000 in
/-- Where it is bad, or less than nothing is asked. -/
theorem takeC_bad (ah n : Int) (w : World) (B : Nat) (S : Nat → Prop) (l : List UInt8) (bad : Bool) (hr : Rr w B S (l, bad)) (h : bad = true ∨ n < 0) :
    Calls Tryd.prog 63 #[.pointer (some ⟨B, 0, none⟩), .int .i64 ah, .int .i64 n] w (SliceRetC B S [] (l, true) w) := by
  obtain ⟨a, cap, hat, h2, h3, hin, hS⟩ := hr
  have c0 : w.cell? ⟨B, 1, none⟩ = some (.bool bad) := by rw [hat.cell]; rfl
  have c1 : w.frozen? ⟨B, 1, none⟩ = false := hat.frozen 1
  have f : Fr (One B) w (w.setCell ⟨B, 1, none⟩ (.bool true)) := (Fr.refl (One B) w).setCell (p := ⟨B, 1, none⟩) (fun _ => rfl) _
  have HN : Hid (SliceRetC B S [] (l, true) w (.returned (.slice none 0 0)) (w.setCell ⟨B, 1, none⟩ (.bool true))) :=
    Lib.hid ⟨none, 0, rfl, In.nil _ _ _, ⟨a, cap, hat.set_ 1 _, h2, h3, hin.keep f fun k hk h => hS (by have : k = B := h; subst this; exact hk), hS⟩, f, Nat.le_refl _, Nat.zero_le _⟩
  clear hat hin hS f h2 h3
  cases bad with
  | true =>
    go_enter Tryd.func63, Tryd.ntmps63
    go_wp2_with fail
    go_ret
    exact HN.out
  | false =>
    have hn : n < 0 := by simpa using h
    go_enter Tryd.func63, Tryd.ntmps63
    go_wp2_with fail
    go_ret
    exact HN.out
set_option maxRecDepth 20000 in
set_option maxHeartbeats 400000 in
theorem takeC_c (ah : Nat) (n : Int) (w : World) (B : Nat) (S : Nat → Prop) (l : List UInt8) (hr : Rr w B S (l, false)) (hn0 : 0 ≤ n) (hn1 : n ≤ 9223372036854775807) (hah : ah ≤ l.length) :
    Calls Tryd.prog 63 #[.pointer (some ⟨B, 0, none⟩), .int .i64 (ah : Int), .int .i64 n] w (SliceRetC B S (takeS ah n (l, false)).1 (takeS ah n (l, false)).2 w) := by
  obtain ⟨a, cap, hat, h2, h3, hin, hS⟩ := hr
  simp only at hat h2 hin
  have c0 : w.cell? ⟨B, 1, none⟩ = some (.bool false) := by rw [hat.cell]; rfl
  have c1 : w.frozen? ⟨B, 1, none⟩ = false := hat.frozen 1
  have c2 : w.cell? ⟨B, 0, none⟩ = some (.slice a l.length cap) := by rw [hat.cell]; rfl
  have c3 : w.frozen? ⟨B, 0, none⟩ = false := hat.frozen 0
  unfold maxLen at h3
  by_cases hlt : (l.length : Int) - ah < n
  · have f : Fr (One B) w (w.setCell ⟨B, 1, none⟩ (.bool true)) := (Fr.refl (One B) w).setCell (p := ⟨B, 1, none⟩) (fun _ => rfl) _
    have HN : Hid (SliceRetC B S (takeS ah n (l, false)).1 (takeS ah n (l, false)).2 w (.returned (.slice none 0 0)) (w.setCell ⟨B, 1, none⟩ (.bool true))) := by
      have e : takeS ah n (l, false) = ([], (l, true)) := by unfold takeS; rw [if_pos (.inr (.inr hlt))]
      rw [e]
      exact Lib.hid ⟨none, 0, rfl, In.nil _ _ _, ⟨a, cap, hat.set_ 1 _, h2, by unfold maxLen; omega, hin.keep f fun k hk h => hS (by have : k = B := h; subst this; exact hk), hS⟩, f, Nat.le_refl _, Nat.zero_le _⟩
    clear hat hin hS f
    generalize l.length = len at *
    go_enter Tryd.func63, Tryd.ntmps63
    go_wp2_with fail
    go_ret
    exact HN.out
  · obtain ⟨m, rfl⟩ := Int.eq_ofNat_of_zero_le hn0
    obtain ⟨E, hE⟩ : ∃ E, E = ah + m := ⟨_, rfl⟩
    have hEl : E ≤ l.length := by omega
    have f : Fr (One B) w (w.setCell ⟨B, 0, none⟩ (.slice (cutAt a E cap) (l.length - E) (cap - E))) := (Fr.refl (One B) w).setCell (p := ⟨B, 0, none⟩) (fun _ => rfl) _
    have hSk : ∀ k, S k → ¬ One B k := fun k hk h => hS (by have : k = B := h; subst this; exact hk)
    have HN : Hid (SliceRetC B S (takeS ah m (l, false)).1 (takeS ah m (l, false)).2 w (.returned (.slice (cutAt a ah E) (E - ah) (E - ah))) (w.setCell ⟨B, 0, none⟩ (.slice (cutAt a E cap) (l.length - E) (cap - E)))) := by
      have e : takeS ah m (l, false) = ((l.drop ah).take m, (l.drop E, false)) := by
        unfold takeS
        rw [if_neg (by simp; omega), Int.toNat_natCast, hE]
      rw [e]
      have l1 : ((l.drop ah).take m).length = E - ah := by rw [List.length_take, List.length_drop]; omega
      refine Lib.hid ⟨cutAt a ah E, E - ah, by rw [l1], ?_, ⟨cutAt a E cap, cap - E, ?_, ?_, by unfold maxLen; omega, (hin.drop E cap h2).keep f hSk, hS⟩, f, by rw [l1]; exact Nat.le_refl _, by unfold maxLen; omega⟩
      · have h := hin.cut ah m (by omega)
        rw [← hE] at h
        exact h.keep f hSk
      · have := hat.set_ 0 (.slice (cutAt a E cap) (l.length - E) (cap - E))
        rw [List.length_drop]
        exact this
      · rw [List.length_drop]
        omega
    have S1 := cut_three Tryd.underlying51 sizeU8 a l.length cap ah E (by omega) (by omega)
    have S2 := cut_lo (P := Tryd.prog) Tryd.underlying51 sizeU8 a l.length cap E hEl
    have hEi : (ah : Int) + (m : Int) = (E : Int) := by omega
    have HE := Lib.hid hE
    clear hat hin hS f hSk hE
    generalize cutAt a E cap = a2 at *
    generalize cutAt a ah E = a1 at *
    generalize E - ah = d1 at *
    generalize hd2 : l.length - E = d2 at *
    generalize cap - E = d3 at *
    clear hd2
    generalize l.length = len at *
    go_enter Tryd.func63, Tryd.ntmps63
    go_wp2_with fail
    go_ret
    exact HN.out
theorem take_bad (ah n : Int) (w : World) (B : Nat) (S : Nat → Prop) (l : List UInt8) (bad : Bool) (hr : Rr w B S (l, bad)) (h : bad = true ∨ n < 0) :
    Calls Tryd.prog 63 #[.pointer (some ⟨B, 0, none⟩), .int .i64 ah, .int .i64 n] w (SliceRet B S [] (l, true) w) := (takeC_bad ah n w B S l bad hr h).mono fun _ _ h => h.ret
theorem take_c (ah : Nat) (n : Int) (w : World) (B : Nat) (S : Nat → Prop) (l : List UInt8) (hr : Rr w B S (l, false)) (hn0 : 0 ≤ n) (hn1 : n ≤ 9223372036854775807) (hah : ah ≤ l.length) :
    Calls Tryd.prog 63 #[.pointer (some ⟨B, 0, none⟩), .int .i64 (ah : Int), .int .i64 n] w (SliceRet B S (takeS ah n (l, false)).1 (takeS ah n (l, false)).2 w) := (takeC_c ah n w B S l hr hn0 hn1 hah).mono fun _ _ h => h.ret
theorem SliceRet.st {B : Nat} {S : Nat → Prop} {l l' : List UInt8} {st st' : St} {w : World} {e : Ending} {w' : World} (h : SliceRet B S l st w e w') (h1 : l = l') (h2 : st = st') : SliceRet B S l' st' w e w' := h1 ▸ h2 ▸ h
theorem takeS_len (ah : Nat) (n : Int) (st : St) : (takeS ah n st).1.length ≤ st.1.length := by
  unfold takeS
  split
  · simp
  · simp only [List.length_take, List.length_drop]
    omega

/-- What NewReader tells. -/
def NewR (l : List UInt8) (w : World) (e : Ending) (w' : World) : Prop := ∃ B S, e = .returned (.pointer (some ⟨B, 0, none⟩)) ∧ Rr w' B S (l, false) ∧ Fr No w w' ∧ w.heap.size ≤ B ∧ (∀ k, S k → w.heap.size ≤ k ∧ k < B)
set_option maxHeartbeats 400000 in
theorem newr_c (a : Option Addr) (len cap : Nat) (l : List UInt8) (w : World) (hl : l.length = len) (hm : len ≤ 140737488355328) (hr : Rd w a l) :
    Calls Tryd.prog 36 #[.slice a len cap] w (NewR l w) := by
  have HC := Lib.hid (clone_c a len cap l w hl hm hr)
  clear hl hr
  go_enter Tryd.func36, Tryd.ntmps36
  go_wp2_with fail
  refine (show Calls _ _ _ _ _ from HC.out).mono ?_
  rintro e w1 ⟨v, rfl, hrow, hfr⟩
  obtain ⟨a', cap', rfl, h1, h2, hin⟩ := hrow.form
  have f1 := hfr.alloc (.cells #[.slice a' l.length cap', .bool false] 108)
  have HN : Hid (NewR l w (.returned (.pointer (some ⟨w1.heap.size, 0, none⟩))) (w1.alloc (.cells #[.slice a' l.length cap', .bool false] 108))) :=
    Lib.hid ⟨w1.heap.size, Gr No w w1, rfl, ⟨a', cap', At.new _ _ _, h1, h2, hin.keep ((Fr.refl No w1).alloc _) (fun _ _ h => h), fun h => h.elim (fun h => h) fun h => absurd h.2 (by omega)⟩, f1, hfr.size, fun k hk => hk.elim (fun h => h.elim) fun h => h⟩
  clear hrow hfr hin h1 h2 f1
  generalize l.length = n at *
  go_wp2_with fail
  go_ret
  exact HN.out
end Go.Proofs.YtihahckjcedceaaDoor
