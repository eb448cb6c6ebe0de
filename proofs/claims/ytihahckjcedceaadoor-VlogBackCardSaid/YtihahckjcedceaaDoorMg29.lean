/-
  Texts of layer 14 and of what it stands on, one behind the other.
-/
import Derived.Test.YtihahckjcedceaaDoorMg10
import Derived.Test.YtihahckjcedceaaDoorMg17
import Derived.Test.YtihahckjcedceaaDoorMg11
import Derived.Test.YtihahckjcedceaaDoorMg04
import Derived.Test.YtihahckjcedceaaDoorMg14
import Derived.Test.YtihahckjcedceaaDoorMg25
import Derived.Test.YtihahckjcedceaaDoorMg13

/- A writer of the call's own: what older memory holds stays. -/
namespace Go.Proofs.YtihahckjcedceaaDoor
set_option linter.unusedVariables false
set_option linter.unusedSimpArgs false
open Go.RowKit

/-- A writer made since W; w1 bounds what its bytes use. -/
def WrO (W w1 w : World) (B : Nat) (p : List UInt8) : Prop := ∃ T, Wr w B T p false ∧ (∀ k, T k → W.heap.size ≤ k ∧ k < w1.heap.size) ∧ W.heap.size ≤ B ∧ B < w1.heap.size ∧ Fr No W w ∧ w1.heap.size ≤ w.heap.size ∧ W.heap.size ≤ w1.heap.size
theorem WrO.new (W : World) : WrO W (W.alloc (.cells #[.slice none 0 0, .bool false] 75)) (W.alloc (.cells #[.slice none 0 0, .bool false] 75)) W.heap.size [] :=
  ⟨No, Wr.new W, fun k h => h.elim, Nat.le_refl _, by simp, (Fr.refl No W).alloc _, Nat.le_refl _, by simp⟩
theorem WrO.fr {W w1 w : World} {B : Nat} {p : List UInt8} (h : WrO W w1 w B p) : Fr No W w := by
  obtain ⟨_, _, _, _, _, h, _⟩ := h
  exact h
theorem WrO.no {W w1 w w' : World} {B : Nat} {p : List UInt8} (h : WrO W w1 w B p) (f : Fr No w w') : WrO W w1 w' B p := by
  obtain ⟨T, h1, h2, h3, h4, h5, h6, h7⟩ := h
  exact ⟨T, h1.keep f (fun h => h) (fun _ _ h => h), h2, h3, h4, h5.trans f, Nat.le_trans h6 f.size, h7⟩
theorem WrO.call {W w1 w : World} {B : Nat} {p' : List UInt8} {T : Nat → Prop} {e : Ending} {w' : World} (h1 : ∀ k, T k → W.heap.size ≤ k ∧ k < w1.heap.size) (h2 : W.heap.size ≤ B ∧ B < w1.heap.size ∧ Fr No W w ∧ w1.heap.size ≤ w.heap.size ∧ W.heap.size ≤ w1.heap.size) (hr : WrRet B T p' false w e w') :
    e = .returned (.pointer (some ⟨B, 0, none⟩)) ∧ WrO W w' w' B p' := by
  obtain ⟨rfl, g1, g2⟩ := hr
  obtain ⟨a1, a2, a3, a4, a5⟩ := h2
  have hs := g2.size
  refine ⟨rfl, _, g1, fun k hk => hk.elim (fun hk => ?_) fun hk => ⟨by omega, hk.2⟩, a1, by omega, a3.then_ g2 fun k hk hh => hh.elim (fun hh => by have hh : k = B := hh; omega) fun hh => by have := (h1 k hh).1; omega, Nat.le_refl _, by omega⟩
  have := h1 k hk
  omega
theorem WrO.num {W w1 w : World} {B : Nat} {p : List UInt8} (h : WrO W w1 w B p) (n : Nat) (hn : n < 9223372036854775808) (hm : p.length ≤ 1000000) :
    Calls Tryd.prog 33 #[.pointer (some ⟨B, 0, none⟩), .int .i64 (n : Int)] w fun e w' => e = .returned (.pointer (some ⟨B, 0, none⟩)) ∧ WrO W w' w' B (p ++ enc n) := by
  obtain ⟨T, h1, h2, h3⟩ := h
  exact (wnum_c n w B T p false h1 hn (by omega)).mono fun e w' hr => WrO.call h2 h3 hr
theorem WrO.text {W w1 w : World} {B : Nat} {p : List UInt8} (h : WrO W w1 w B p) (a : Option Addr) (len cap : Nat) (l : List UInt8) (hl : l.length = len) (hm : p.length + len ≤ 1000000000000) (hr : In w (fun k => k < W.heap.size ∨ w1.heap.size ≤ k) a l) :
    Calls Tryd.prog 68 #[.pointer (some ⟨B, 0, none⟩), .slice a len cap] w fun e w' => e = .returned (.pointer (some ⟨B, 0, none⟩)) ∧ WrO W w' w' B (p ++ (enc len ++ l)) := by
  obtain ⟨T, h1, h2, h3⟩ := h
  exact (wtext_c a len cap l w B T p false h1 hl (by omega) (hr.sub fun k _ hk => ⟨by have := h3; omega, fun ht => by have := h2 k ht; omega⟩)).mono fun e w' hr => WrO.call h2 h3 hr
theorem WrO.bytes {W w1 w : World} {B : Nat} {p : List UInt8} (h : WrO W w1 w B p) (hm : p.length ≤ 1000000000000) :
    Calls Tryd.prog 34 #[.pointer (some ⟨B, 0, none⟩)] w (BytesRet p w) := by
  obtain ⟨T, h1, h2, h3⟩ := h
  exact wbytes_c w B T p h1 (by omega)
end Go.Proofs.YtihahckjcedceaaDoor

/- Layer 2: the reader's Done. -/
namespace Go.Proofs.YtihahckjcedceaaDoor
set_option linter.unusedVariables false
open Go.RowKit

/-- What Done tells. -/
def doneI (st : St) : Int := if st.2 = true ∨ 0 < st.1.length then 20 else 0
set_option maxHeartbeats 400000 in
theorem rdone_c (w : World) (B : Nat) (S : Nat → Prop) (st : St) (hr : Rr w B S st) :
    Calls Tryd.prog 38 #[.pointer (some ⟨B, 0, none⟩)] w fun e w' => e = .returned (.int .i64 (doneI st)) ∧ w = w' := by
  obtain ⟨l, b⟩ := st
  obtain ⟨a, cap, hat, _⟩ := hr
  have c0 : w.cell? ⟨B, 0, none⟩ = some (.slice a l.length cap) := by rw [hat.cell]; rfl
  have c1 : w.cell? ⟨B, 1, none⟩ = some (.bool b) := by rw [hat.cell]; rfl
  unfold doneI
  simp only
  clear hat
  generalize l.length = n at *
  cases b with
  | true =>
    rw [if_pos (.inl rfl)]
    go_enter Tryd.func38, Tryd.ntmps38
    go_wp2_with fail
    go_ret
    exact ⟨rfl, rfl⟩
  | false =>
    by_cases hn : 0 < n
    · rw [if_pos (.inr hn)]
      go_enter Tryd.func38, Tryd.ntmps38
      go_wp2_with fail
      go_ret
      exact ⟨rfl, rfl⟩
    · rw [if_neg (by simp; omega)]
      have h0 : n = 0 := by omega
      subst h0
      go_enter Tryd.func38, Tryd.ntmps38
      go_wp2_with fail
      go_ret
      exact ⟨rfl, rfl⟩
end Go.Proofs.YtihahckjcedceaaDoor

/- Mathematics of reading: what is read of bytes is a number, a text just if these are its bytes. -/
namespace Go.Proofs.YtihahckjcedceaaDoor
set_option linter.unusedVariables false

theorem dec_pos : ∀ (f i : Nat) (l : List UInt8) (n s : Nat), 0 < i → dec f i l = some (n, s) → 0 < n := by
  intro f
  induction f with
  | zero => intro i l n s _ h; cases l <;> simp [dec] at h
  | succ f ih =>
    intro i l n s hi h
    cases l with
    | nil => rw [dec_nil] at h; cases h
    | cons c r =>
      rw [dec_cons] at h
      by_cases h1 : c.toNat < 128
      · rw [if_pos h1] at h
        by_cases h2 : c.toNat = 0 ∧ 0 < i
        · rw [if_pos h2] at h; cases h
        · rw [if_neg h2] at h
          simp only [Option.some.injEq, Prod.mk.injEq] at h
          omega
      · rw [if_neg h1] at h
        cases hd : dec f (i + 1) r with
        | none => rw [hd] at h; cases h
        | some p =>
          rw [hd] at h
          have := ih (i + 1) r p.1 p.2 (by omega) hd
          simp only [Option.map_some, Option.some.injEq, Prod.mk.injEq] at h
          omega
theorem dec_canon : ∀ (f i : Nat) (l : List UInt8) (n s : Nat), dec f i l = some (n, s) → l = enc n ++ l.drop s := by
  intro f
  induction f with
  | zero => intro i l n s h; cases l <;> simp [dec] at h
  | succ f ih =>
    intro i l n s h
    cases l with
    | nil => rw [dec_nil] at h; cases h
    | cons c r =>
      rw [dec_cons] at h
      have hc := c.toNat_lt
      by_cases h1 : c.toNat < 128
      · rw [if_pos h1] at h
        by_cases h2 : c.toNat = 0 ∧ 0 < i
        · rw [if_pos h2] at h; cases h
        · rw [if_neg h2] at h
          simp only [Option.some.injEq, Prod.mk.injEq] at h
          obtain ⟨rfl, rfl⟩ := h
          rw [enc_small h1]
          simp
      · rw [if_neg h1] at h
        cases hd : dec f (i + 1) r with
        | none => rw [hd] at h; cases h
        | some p =>
          rw [hd] at h
          have hp := dec_pos f (i + 1) r p.1 p.2 (by omega) hd
          have hr := ih (i + 1) r p.1 p.2 hd
          simp only [Option.map_some, Option.some.injEq, Prod.mk.injEq] at h
          obtain ⟨rfl, rfl⟩ := h
          rw [enc_big (by omega)]
          have e1 : (c.toNat - 128 + 128 * p.1) / 128 = p.1 := by omega
          have e2 : (c.toNat - 128 + 128 * p.1) % 128 + 128 = c.toNat := by omega
          rw [e1, e2, List.drop_succ_cons, List.cons_append, ← hr]
          simp
theorem numS_back {l r : List UInt8} {n : Nat} (h : numS (l, false) = (n, (r, false))) : l = enc n ++ r ∧ n < 9223372036854775808 := by
  unfold numS at h
  simp only at h
  cases hd : dec 9 0 l with
  | none => rw [hd] at h; simp at h
  | some p =>
    rw [hd] at h
    simp only [Bool.false_eq_true, if_false, Prod.mk.injEq, and_true] at h
    obtain ⟨rfl, rfl⟩ := h
    exact ⟨dec_canon 9 0 l p.1 p.2 hd, (dec_lt9 l p.1 p.2 hd).2.2.2⟩
theorem textS_back {l t r : List UInt8} (h : textS (l, false) = (t, (r, false))) : l = enc t.length ++ (t ++ r) := by
  unfold textS at h
  simp only at h
  cases hd : dec 9 0 l with
  | none => rw [hd] at h; simp at h
  | some p =>
    rw [hd] at h
    simp only at h
    unfold takeS at h
    simp only at h
    by_cases hb : false = true ∨ (p.1 : Int) < 0 ∨ (l.length : Int) - (p.2 : Int) < (p.1 : Int)
    · rw [if_pos hb] at h; simp at h
    · rw [if_neg hb] at h
      simp only [Prod.mk.injEq, and_true, Int.toNat_natCast] at h
      obtain ⟨rfl, rfl⟩ := h
      have hc := dec_canon 9 0 l p.1 p.2 hd
      have hl := dec_lt9 l p.1 p.2 hd
      have e : ((l.drop p.2).take p.1).length = p.1 := by
        rw [List.length_take, List.length_drop]
        omega
      rw [e, ← List.drop_drop, List.take_append_drop]
      exact hc
theorem numS_keeps (l : List UInt8) (b : Bool) : (numS (l, b)).2.2 = false → b = false := by
  intro h
  cases b
  · rfl
  · rw [numS_bad] at h; cases h
theorem textS_keeps (l : List UInt8) (b : Bool) : (textS (l, b)).2.2 = false → b = false := by
  intro h
  cases b
  · rfl
  · rw [textS_bad] at h; cases h
theorem byteS_keeps (l : List UInt8) (b : Bool) : (byteS (l, b)).2.2 = false → b = false := by
  intro h
  cases b
  · rfl
  · rw [byteS_bad] at h; cases h
theorem byteS_back {l r : List UInt8} {c : UInt8} (h : byteS (l, false) = (c, (r, false))) : l = c :: r := by
  unfold byteS at h
  cases l with
  | nil => simp at h
  | cons x l =>
    simp only [Bool.false_eq_true, if_false, Prod.mk.injEq, and_true] at h
    rw [h.1, h.2]
theorem byteS_c0 (l : List UInt8) (b : Bool) : (byteS (l, b)).2.2 = true → (byteS (l, b)).1 = 0 := by
  intro h
  unfold byteS at h ⊢
  cases b <;> cases l <;> simp_all

theorem bs_strOf (l : List UInt8) : bs (strOf l) = l := by simp [bs, strOf]
theorem size_strOf (l : List UInt8) : (strOf l).size = l.length := by
  rw [← bs_length, bs_strOf]
theorem strOf_bs (s : ByteArray) : strOf (bs s) = s := by
  rcases s with ⟨⟨l⟩⟩
  rfl
theorem doneI_zero {st : St} (h : doneI st = 0) : st = ([], false) := by
  obtain ⟨l, b⟩ := st
  unfold doneI at h
  by_cases h1 : b = true ∨ 0 < l.length
  · rw [if_pos h1] at h; cases h
  · have hb : b = false := by
      cases b
      · rfl
      · exact absurd (.inl rfl) h1
    have hl : l = [] := List.eq_nil_of_length_eq_zero (by
      rcases Nat.eq_zero_or_pos l.length with h | h
      · exact h
      · exact absurd (.inr h) h1)
    rw [hb, hl]
theorem textS_len (st : St) : (textS st).1.length ≤ st.1.length ∧ (textS st).2.1.length ≤ st.1.length := by
  obtain ⟨l, b⟩ := st
  unfold textS
  simp only
  cases hd : dec 9 0 l with
  | none => simp
  | some p =>
    simp only
    refine ⟨takeS_len _ _ _, ?_⟩
    unfold takeS
    split
    · simp
    · simp
theorem numS_len (st : St) : (numS st).2.1.length ≤ st.1.length ∧ (numS st).1 < 9223372036854775808 := by
  obtain ⟨l, b⟩ := st
  unfold numS
  cases b
  · simp only [Bool.false_eq_true, if_false]
    cases hd : dec 9 0 l with
    | none => simp
    | some p =>
      simp only
      exact ⟨by simp, (dec_lt9 l p.1 p.2 hd).2.2.2⟩
  · simp
end Go.Proofs.YtihahckjcedceaaDoor

/- A reader of the call's own: what older memory holds stays. -/
namespace Go.Proofs.YtihahckjcedceaaDoor
set_option linter.unusedVariables false
set_option linter.unusedSimpArgs false
open Go.RowKit

/-- A reader made since W. -/
def RdO (W w : World) (B : Nat) (st : St) : Prop := ∃ S, Rr w B S st ∧ W.heap.size ≤ B ∧ (∀ k, S k → W.heap.size ≤ k ∧ k < B) ∧ Fr No W w
theorem RdO.fr {W w : World} {B : Nat} {st : St} (h : RdO W w B st) : Fr No W w := by
  obtain ⟨_, _, _, _, h⟩ := h
  exact h
theorem RdO.no {W w w' : World} {B : Nat} {st : St} (h : RdO W w B st) (f : Fr No w w') : RdO W w' B st := by
  obtain ⟨S, h1, h2, h3, h4⟩ := h
  exact ⟨S, h1.keep f (fun h => h) (fun _ _ h => h), h2, h3, h4.trans f⟩
theorem newRdO (a : Option Addr) (len cap : Nat) (l : List UInt8) (w : World) (hl : l.length = len) (hm : len ≤ 140737488355328) (hr : Rd w a l) :
    Calls Tryd.prog 36 #[.slice a len cap] w fun e w' => ∃ B, e = .returned (.pointer (some ⟨B, 0, none⟩)) ∧ RdO w w' B (l, false) :=
  (newr_c a len cap l w hl hm hr).mono fun e w' ⟨B, S, h1, h2, h3, h4, h5⟩ => ⟨B, h1, S, h2, h4, h5, h3⟩
theorem RdO.from {W0 W w : World} {B : Nat} {st : St} (h : RdO W w B st) (f : Fr No W0 W) : RdO W0 w B st := by
  obtain ⟨S, h1, h2, h3, h4⟩ := h
  have := f.size
  exact ⟨S, h1, by omega, fun k hk => ⟨by have := h3 k hk; omega, (h3 k hk).2⟩, f.trans h4⟩
theorem RdO.num {W w : World} {B : Nat} {st : St} (h : RdO W w B st) :
    Calls Tryd.prog 37 #[.pointer (some ⟨B, 0, none⟩)] w fun e w' => e = .returned (.int .i64 ((numS st).1 : Int)) ∧ RdO W w' B (numS st).2 := by
  obtain ⟨S, h1, h2, h3, h4⟩ := h
  exact (rnum_c w B S st h1).mono fun e w' ⟨g1, g2, g3⟩ => ⟨g1, S, g2, h2, h3, h4.then_ g3 fun k hk hh => by have hh : k = B := hh; omega⟩
theorem RdO.text {W w : World} {B : Nat} {st : St} (h : RdO W w B st) :
    Calls Tryd.prog 75 #[.pointer (some ⟨B, 0, none⟩)] w fun e w' => ∃ a cap, e = .returned (.slice a (textS st).1.length cap) ∧ In w' (fun k => W.heap.size ≤ k ∧ k < B) a (textS st).1 ∧ (textS st).1.length ≤ cap ∧ cap ≤ maxLen ∧ RdO W w' B (textS st).2 ∧ Fr (One B) w w' := by
  obtain ⟨S, h1, h2, h3, h4⟩ := h
  exact (rtextC_c w B S st h1).mono fun e w' ⟨a, cap, g1, g2, g3, g4, g5, g6⟩ => ⟨a, cap, g1, g2.sub fun k _ hk => h3 k hk, g5, g6, ⟨S, g3, h2, h3, h4.then_ g4 fun k hk hh => by have hh : k = B := hh; omega⟩, g4⟩
theorem RdO.done {W w : World} {B : Nat} {st : St} (h : RdO W w B st) :
    Calls Tryd.prog 38 #[.pointer (some ⟨B, 0, none⟩)] w fun e w' => e = .returned (.int .i64 (doneI st)) ∧ w = w' := by
  obtain ⟨S, h1, h2, h3, h4⟩ := h
  exact rdone_c w B S st h1
theorem In.one {W w w' : World} {B : Nat} {a : Option Addr} {l : List UInt8} (h : In w (fun k => W.heap.size ≤ k ∧ k < B) a l) (f : Fr (One B) w w') : In w' (fun k => W.heap.size ≤ k ∧ k < B) a l :=
  h.keep f fun k hk hh => by have hh : k = B := hh; omega
theorem In.noN {S : Nat → Prop} {w w' : World} {a : Option Addr} {l : List UInt8} (h : In w S a l) (f : Fr No w w') : In w' S a l := h.keep f fun _ _ h => h
end Go.Proofs.YtihahckjcedceaaDoor
