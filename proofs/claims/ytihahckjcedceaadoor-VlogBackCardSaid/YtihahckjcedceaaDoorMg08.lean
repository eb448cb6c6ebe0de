/-
  Texts of layer 14 and of what it stands on, one behind the other.
-/
import Derived.Test.YtihahckjcedceaaDoorMg06

/- Contracts of layer 2's writer: raw bytes, numbers, Bytes. -/
namespace Go.Proofs.YtihahckjcedceaaDoor
set_option linter.unusedVariables false
open Go.RowKit

/-- A writer at block B: what was put lies within S. -/
def Wr (w : World) (B : Nat) (S : Nat → Prop) (p : List UInt8) (bad : Bool) : Prop :=
  ∃ v, At w B 75 #[v, .bool bad] ∧ Row w S v p ∧ ¬ S B ∧ ∀ k, S k → k < w.heap.size
def ptr (B : Nat) : Value := .pointer (some ⟨B, 0, none⟩)
def WrRet (B : Nat) (S : Nat → Prop) (p : List UInt8) (bad : Bool) (w : World) (e : Ending) (w' : World) : Prop :=
  e = .returned (.pointer (some ⟨B, 0, none⟩)) ∧ Wr w' B (Gr S w w') p bad ∧ Fr (Two (One B) S) w w'

theorem size_set (w : World) (p : Addr) (u : Value) : (w.setCell p u).heap.size = w.heap.size := by simp [World.setCell]
theorem Gr.same {S : Nat → Prop} {w a b : World} (h : a.heap.size = b.heap.size) : Gr S w a = Gr S w b := by unfold Gr; rw [h]
theorem Wr.lt {w : World} {B : Nat} {S : Nat → Prop} {p : List UInt8} {bad : Bool} (h : Wr w B S p bad) : B < w.heap.size := by
  obtain ⟨v, h1, _⟩ := h
  exact h1.lt
theorem Wr.keep {w w' : World} {B : Nat} {S T : Nat → Prop} {p : List UInt8} {bad : Bool} (h : Wr w B S p bad) (f : Fr T w w') (hB : ¬ T B) (hS : ∀ k, S k → ¬ T k) : Wr w' B S p bad := by
  obtain ⟨v, h1, h2, h3, h4⟩ := h
  exact ⟨v, h1.keep f hB, h2.keep f hS, h3, fun k hk => Nat.lt_of_lt_of_le (h4 k hk) f.size⟩
theorem Wr.sub {w : World} {B : Nat} {S T : Nat → Prop} {p : List UInt8} {bad : Bool} (h : Wr w B S p bad) (hs : ∀ k, S k → T k) (hB : ¬ T B) (hT : ∀ k, T k → k < w.heap.size) : Wr w B T p bad := by
  obtain ⟨v, h1, h2, h3, h4⟩ := h
  exact ⟨v, h1, h2.sub fun k _ => hs k, hB, hT⟩
theorem Wr.len {w : World} {B : Nat} {S : Nat → Prop} {p : List UInt8} {bad : Bool} (h : Wr w B S p bad) : p.length ≤ maxLen := by
  obtain ⟨v, h1, h2, h3, h4⟩ := h
  obtain ⟨a, cap, _, h5, h6, _⟩ := h2.form
  omega
/-- A new writer. -/
theorem Wr.new (w : World) : Wr (w.alloc (.cells #[.slice none 0 0, .bool false] 75)) w.heap.size No [] false :=
  ⟨_, At.new _ _ _, Row.nil _ _, fun h => h, fun k h => h.elim⟩

/-- What an append to the writer's bytes, and the store of what it tells, make. -/
theorem Wr.put {w w0 W : World} {B : Nat} {S : Nat → Prop} {p q : List UInt8} {bad : Bool} {v v' : Value} (hat : At w B 75 #[v, .bool bad]) (hB : ¬ S B) (hS : ∀ k, S k → k < w.heap.size)
    (hrow : Row W (Gr S w W) v' q) (hfr : Fr S w W) :
    W.cell? ⟨B, 0, none⟩ = some v ∧ W.frozen? ⟨B, 0, none⟩ = false ∧ Wr (W.setCell ⟨B, 0, none⟩ v') B (Gr S w (W.setCell ⟨B, 0, none⟩ v')) q bad ∧ Fr (Two (One B) S) w (W.setCell ⟨B, 0, none⟩ v') := by
  have h1 := hat.keep hfr hB
  have f1 : Fr (One B) W (W.setCell ⟨B, 0, none⟩ v') := (Fr.refl (One B) W).setCell (p := ⟨B, 0, none⟩) (fun _ => rfl) v'
  have hgB : ¬ Gr S w W B := fun h => by
    rcases h with h | h
    · exact hB h
    · have := hat.lt; omega
  refine ⟨by rw [h1.cell]; rfl, h1.frozen 0, ?_, (hfr.sub fun k _ h => .inr h).then_ f1 fun k _ h => .inl h⟩
  rw [Gr.same (size_set W _ _)]
  refine ⟨v', h1.set_ 0 v', hrow.keep f1 fun k hk h => ?_, hgB, fun k hk => ?_⟩
  · have : k = B := h
    subst this
    exact hgB hk
  · rw [size_set]
    rcases hk with hk | hk
    · exact Nat.lt_of_lt_of_le (hS k hk) hfr.size
    · exact hk.2

set_option maxHeartbeats 400000 in
theorem wraw_c (a : Option Addr) (len cap : Nat) (l : List UInt8) (w : World) (B : Nat) (S : Nat → Prop) (p : List UInt8) (bad : Bool) (hw : Wr w B S p bad) (hl : l.length = len) (hm : p.length + len ≤ 140737488355328) (hr : Rd w a l) :
    Calls Tryd.prog 79 #[.pointer (some ⟨B, 0, none⟩), .slice a len cap] w (WrRet B S (p ++ l) bad w) := by
  obtain ⟨v, hat, hrow, hB, hS⟩ := hw
  obtain ⟨v', W, hrun, hrow', hfr⟩ := hrow.append a len cap l hl hr hm
  obtain ⟨a', n', cap', rfl⟩ := hrow'.shape
  obtain ⟨c1, c2, c3, c4⟩ := Wr.put (w0 := w) (p := p) hat hB hS hrow' hfr
  have HN : Hid (WrRet B S (p ++ l) bad w (.returned (.pointer (some ⟨B, 0, none⟩))) (W.setCell ⟨B, 0, none⟩ _)) := Lib.hid ⟨rfl, c3, c4⟩
  have c0 : w.cell? ⟨B, 0, none⟩ = some v := by rw [hat.cell]; rfl
  have HRUN := Lib.hid hrun
  clear hrun hrow hrow' hfr hat hB hS c3 c4 hr hl
  go_enter Tryd.func79, Tryd.ntmps79
  go_wp2_with (at_builtin; refine wpList_append_run rfl _ _ 51 rfl rfl rfl HRUN.out ?_)
  go_ret
  exact HN.out

theorem WrRet.from {B : Nat} {S : Nat → Prop} {p : List UInt8} {bad : Bool} {w a : World} {e : Ending} {w' : World} (f : Fr (Two (One B) S) w a) (h : WrRet B (Gr S w a) p bad a e w') : WrRet B S p bad w e w' := by
  obtain ⟨h1, h2, h3⟩ := h
  have hB : B < w.heap.size → True := fun _ => trivial
  refine ⟨h1, ?_, f.then_ h3 fun k hk h => ?_⟩
  · have hlt := h2.lt
    refine h2.sub (fun k hk => Gr.join f.size h3.size k hk) ?_ ?_
    · intro hg
      obtain ⟨v, _, _, hn, _⟩ := h2
      rcases hg with hg | hg
      · exact hn (.inl (.inl hg))
      · rcases Nat.lt_or_ge B a.heap.size with h' | h'
        · exact hn (.inl (.inr ⟨hg.1, h'⟩))
        · exact hn (.inr ⟨h', hg.2⟩)
    · intro k hk
      obtain ⟨v, _, _, _, hS⟩ := h2
      rcases hk with hk | hk
      · exact hS k (.inl (.inl hk))
      · exact hk.2
  · rcases h with h | h
    · exact .inl h
    · exact .inr (Gr.old hk h)
theorem and127_i64 (n : Nat) (h : n < 9223372036854775808) : bits .and .i64 (n : Int) 127 = ((n % 128 : Nat) : Int) := by
  have e := and_i64 n 127 h (by decide)
  have e2 : n &&& 127 = n % 128 := Nat.and_two_pow_sub_one_eq_mod n 7
  rw [e2] at e
  exact e
theorem or128_i64 (y : Nat) (h : y < 128) : bits .or .i64 (y : Int) 128 = ((y + 128 : Nat) : Int) := by
  have e := or_i64 y 128 (by omega) (by decide)
  have e2 : y ||| 128 = y + 128 := by
    have := or_low y 1 1 (by simpa using h)
    simpa using this
  rw [e2] at e
  exact e

set_option maxHeartbeats 400000 in
theorem wnum_neg (n : Int) (w : World) (B : Nat) (S : Nat → Prop) (p : List UInt8) (bad : Bool) (hw : Wr w B S p bad) (hn : n < 0) :
    Calls Tryd.prog 33 #[.pointer (some ⟨B, 0, none⟩), .int .i64 n] w (WrRet B S p true w) := by
  obtain ⟨v, hat, hrow, hB, hS⟩ := hw
  have c0 : w.cell? ⟨B, 1, none⟩ = some (.bool bad) := by rw [hat.cell]; rfl
  have c1 : w.frozen? ⟨B, 1, none⟩ = false := hat.frozen 1
  have f : Fr (Two (One B) S) w (w.setCell ⟨B, 1, none⟩ (.bool true)) := (Fr.refl _ _).setCell (fun _ => .inl rfl) _
  have HN : Hid (WrRet B S p true w (.returned (.pointer (some ⟨B, 0, none⟩))) (w.setCell ⟨B, 1, none⟩ (.bool true))) := Lib.hid ⟨rfl, by
    have f1 : Fr (One B) w (w.setCell ⟨B, 1, none⟩ (.bool true)) := (Fr.refl (One B) w).setCell (p := ⟨B, 1, none⟩) (fun _ => rfl) _
    have e : Gr S w (w.setCell ⟨B, 1, none⟩ (.bool true)) = S := by
      funext k
      unfold Gr
      rw [size_set]
      exact propext ⟨fun h => h.elim id fun h => absurd h.1 (by omega), .inl⟩
    rw [e]
    exact ⟨v, hat.set_ 1 _, hrow.keep f1 fun k hk h => hB (by have : k = B := h; subst this; exact hk), hB, fun k hk => by rw [size_set]; exact hS k hk⟩, f⟩
  clear hat hrow hB hS f
  go_enter Tryd.func33, Tryd.ntmps33
  go_wp2_with fail
  go_ret
  exact HN.out

/-- What holds at each round's head of Number's loop. -/
def NumInv (n B : Nat) (S : Nat → Prop) (p : List UInt8) (bad : Bool) (w : World) (L k q : Nat) (wr : World) : Prop :=
  q < 9223372036854775808 ∧ k + 1 ≤ L ∧ (enc q).length = L - k ∧ ∃ r, r ++ enc q = p ++ enc n ∧ r.length + (enc q).length ≤ 140737488355328 ∧ Wr wr B (Gr S w wr) r bad ∧ Fr (Two (One B) S) w wr
theorem Gr.refl_ {S : Nat → Prop} (w : World) : Gr S w w = S := by
  funext k
  unfold Gr
  exact propext ⟨fun h => h.elim id fun h => absurd h.1 (by omega), .inl⟩
theorem NumInv.start (n B : Nat) (S : Nat → Prop) (p : List UInt8) (bad : Bool) (w : World) (hn : n < 9223372036854775808) (hw : Wr w B S p bad) (hm : p.length + 9 ≤ 140737488355328) : NumInv n B S p bad w (enc n).length 0 n w := by
  have := enc_len9 hn
  exact ⟨hn, enc_pos n, by omega, p, rfl, by omega, by rw [Gr.refl_]; exact hw, Fr.refl _ _⟩
/-- The writer's bytes, taken on by one more. -/
theorem Wr.step {w : World} {B : Nat} {S : Nat → Prop} {p : List UInt8} {bad : Bool} (hw : Wr w B S p bad) (c : UInt8) (hm : p.length < 140737488355328) :
    ∃ v a' n' c' W, w.cell? ⟨B, 0, none⟩ = some v ∧ (Builtin.append_ #[51, 51] 51 #[v, .slice (some ⟨w.heap.size, 0, none⟩) 1 1]).run Tryd.prog (w.alloc (.cells #[.int .u8 (c.toNat : Int)] 5)) = .ok (.slice a' n' c') W ∧
      W.cell? ⟨B, 0, none⟩ = some v ∧ W.frozen? ⟨B, 0, none⟩ = false ∧ WrRet B S (p ++ [c]) bad w (.returned (.pointer (some ⟨B, 0, none⟩))) (W.setCell ⟨B, 0, none⟩ (.slice a' n' c')) := by
  obtain ⟨v, hat, hrow, hB, hS⟩ := hw
  obtain ⟨v', W, hrun, hrow', hfr⟩ := hrow.push hS c hm
  obtain ⟨a', n', cap', rfl⟩ := hrow'.shape
  obtain ⟨c1, c2, c3, c4⟩ := Wr.put (w0 := w) (p := p) hat hB hS hrow' hfr
  exact ⟨v, a', n', cap', W, by rw [hat.cell]; rfl, hrun, c1, c2, rfl, c3, c4⟩
theorem NumInv.more {n B : Nat} {S : Nat → Prop} {p : List UInt8} {bad : Bool} {w wr W : World} {L k q : Nat} (h : NumInv n B S p bad w L k q wr) (hk : k + 1 < L) :
    128 ≤ q ∧ ∃ v a' n' c' W, wr.cell? ⟨B, 0, none⟩ = some v ∧ (Builtin.append_ #[51, 51] 51 #[v, .slice (some ⟨wr.heap.size, 0, none⟩) 1 1]).run Tryd.prog (wr.alloc (.cells #[.int .u8 ((q % 128 + 128 : Nat) : Int)] 5)) = .ok (.slice a' n' c') W ∧
      W.cell? ⟨B, 0, none⟩ = some v ∧ W.frozen? ⟨B, 0, none⟩ = false ∧ NumInv n B S p bad w L (k + 1) (q / 128) (W.setCell ⟨B, 0, none⟩ (.slice a' n' c')) := by
  obtain ⟨h1, h2, h3, r, h4, h5, h6, h7⟩ := h
  have hq : 128 ≤ q := by
    rcases Nat.lt_or_ge q 128 with h | h
    · rw [enc_len_small h] at h3; omega
    · exact h
  have hl := enc_len_big hq
  obtain ⟨v, a', n', c', W, g1, g2, g3, g4, g5⟩ := h6.step (UInt8.ofNat (q % 128 + 128)) (by omega)
  rw [toNat_ofNat (by omega)] at g2
  obtain ⟨_, g6, g7⟩ := WrRet.from h7 g5
  refine ⟨hq, v, a', n', c', W, g1, g2, g3, g4, by omega, by omega, by omega, _, ?_, ?_, g6, g7⟩
  · rw [← h4, enc_big hq]
    simp
  · simp only [List.length_append, List.length_cons, List.length_nil]
    omega
theorem NumInv.last {n B : Nat} {S : Nat → Prop} {p : List UInt8} {bad : Bool} {w wr W : World} {L k q : Nat} (h : NumInv n B S p bad w L k q wr) (hk : k + 1 = L) :
    q < 128 ∧ ∃ v a' n' c' W, wr.cell? ⟨B, 0, none⟩ = some v ∧ (Builtin.append_ #[51, 51] 51 #[v, .slice (some ⟨wr.heap.size, 0, none⟩) 1 1]).run Tryd.prog (wr.alloc (.cells #[.int .u8 (q : Int)] 5)) = .ok (.slice a' n' c') W ∧
      W.cell? ⟨B, 0, none⟩ = some v ∧ W.frozen? ⟨B, 0, none⟩ = false ∧ WrRet B S (p ++ enc n) bad w (.returned (.pointer (some ⟨B, 0, none⟩))) (W.setCell ⟨B, 0, none⟩ (.slice a' n' c')) := by
  obtain ⟨h1, h2, h3, r, h4, h5, h6, h7⟩ := h
  have hq : q < 128 := by
    rcases Nat.lt_or_ge q 128 with h | h
    · exact h
    · rw [enc_len_big h] at h3
      have := enc_pos (q / 128)
      omega
  have hl := enc_len_small hq
  obtain ⟨v, a', n', c', W, g1, g2, g3, g4, g5⟩ := h6.step (UInt8.ofNat q) (by omega)
  rw [toNat_ofNat (by omega)] at g2
  have g6 := WrRet.from h7 g5
  rw [enc_small hq] at h4
  rw [h4] at g6
  exact ⟨hq, v, a', n', c', W, g1, g2, g3, g4, g6⟩

set_option maxRecDepth 20000 in
set_option maxHeartbeats 800000 in
theorem wnum_c (n : Nat) (w : World) (B : Nat) (S : Nat → Prop) (p : List UInt8) (bad : Bool) (hw : Wr w B S p bad) (hn : n < 9223372036854775808) (hm : p.length + 9 ≤ 140737488355328) :
    Calls Tryd.prog 33 #[.pointer (some ⟨B, 0, none⟩), .int .i64 (n : Int)] w (WrRet B S (p ++ enc n) bad w) := by
  have HI := Lib.hid (NumInv.start n B S p bad w hn hw hm)
  have HS := Lib.hid (size_c n w hn)
  have h9 := enc_len9 hn
  have h1 := enc_pos n
  generalize hL : (enc n).length = L at HI HS h9 h1
  have HL := Lib.hid hL
  clear hL hw
  go_enter Tryd.func33, Tryd.ntmps33
  go_wp2_with fail
  refine (show Calls _ _ _ _ _ from HS.out).mono ?_
  rintro e w' ⟨rfl, rfl⟩
  clear HS
  go_wp2_with fail
  go_loopw [1, 14] (fun x i wr => ∃ (k q : Nat), x = .int .i64 q ∧ i = .int .i64 k ∧ NumInv n B S p bad w L k q wr) (fun _ i _ => L - (intOf i).toNat)
  case atStart => exact ⟨0, n, rfl, rfl, HI.out⟩
  case round =>
    obtain ⟨k, q, rfl, rfl, hi⟩ := hrel
    have hq63 := hi.1
    have hkL := hi.2.1
    clear HI
    by_cases hk : k + 1 < L
    · obtain ⟨hq, v, a', n', c', W, c0, hrun, c1, c2, hnext⟩ := hi.more (W := wr) hk
      have HRUN := Lib.hid hrun
      have HX := Lib.hid hnext
      have e1 := and127_i64 q hq63
      have e2 := or128_i64 (q % 128) (Nat.mod_lt _ (by decide))
      have hy : q % 128 < 128 := Nat.mod_lt _ (by decide)
      generalize q % 128 = y at HRUN e1 e2 hy
      clear hrun hnext hi
      go_wp2_with (at_builtin; refine wpList_append_run rfl _ _ 51 rfl rfl rfl HRUN.out ?_)
      go_roundw
      case rel => exact ⟨k + 1, q / 128, by first | rfl | go_num, by go_num, HX.out⟩
      case measure => simp [intOf]; omega
    · obtain ⟨hq, v, a', n', c', W, c0, hrun, c1, c2, hnext⟩ := hi.last (W := wr) (by omega)
      have HRUN := Lib.hid hrun
      have HX := Lib.hid hnext
      clear hrun hnext hi
      go_wp2_with (at_builtin; refine wpList_append_run rfl _ _ 51 rfl rfl rfl HRUN.out ?_)
      go_ret
      exact HX.out
/-- What Bytes tells. -/
def BytesRet (p : List UInt8) (w : World) (e : Ending) (w' : World) : Prop := ∃ a cap, e = .returned (.tuple #[.slice a p.length cap, .int .i64 0]) ∧ p.length ≤ cap ∧ cap ≤ maxLen ∧ Row w' (Gr No w w') (.slice a p.length cap) p ∧ Fr No w w'
set_option maxHeartbeats 400000 in
theorem wbytes_bad (w : World) (B : Nat) (S : Nat → Prop) (p : List UInt8) (hw : Wr w B S p true) :
    Calls Tryd.prog 34 #[.pointer (some ⟨B, 0, none⟩)] w fun e w' => e = .returned (.tuple #[.slice none 0 0, .int .i64 20]) ∧ w = w' := by
  obtain ⟨v, hat, hrow, hB, hS⟩ := hw
  have c0 : w.cell? ⟨B, 1, none⟩ = some (.bool true) := by rw [hat.cell]; rfl
  clear hat hrow hB hS
  go_enter Tryd.func34, Tryd.ntmps34
  go_wp2_with fail
  go_ret2
  exact ⟨rfl, rfl⟩
set_option maxHeartbeats 400000 in
theorem wbytes_c (w : World) (B : Nat) (S : Nat → Prop) (p : List UInt8) (hw : Wr w B S p false) (hm : p.length ≤ 140737488355328) :
    Calls Tryd.prog 34 #[.pointer (some ⟨B, 0, none⟩)] w (BytesRet p w) := by
  obtain ⟨v, hat, hrow, hB, hS⟩ := hw
  obtain ⟨a, cap, rfl, _, _, hin⟩ := hrow.form
  have c0 : w.cell? ⟨B, 0, none⟩ = some (.slice a p.length cap) := by rw [hat.cell]; rfl
  have c1 : w.cell? ⟨B, 1, none⟩ = some (.bool false) := by rw [hat.cell]; rfl
  have HC := Lib.hid (clone_c a p.length cap p w rfl hm hin.rd)
  clear hat hrow hB hS hin
  generalize hn : p.length = n at *
  have Hn := Lib.hid hn
  clear hn
  go_enter Tryd.func34, Tryd.ntmps34
  go_wp2_with fail
  refine (show Calls _ _ _ _ _ from HC.out).mono ?_
  rintro e w' ⟨v, rfl, hrow, hfr⟩
  obtain ⟨a', cap', rfl, h1, h2, _⟩ := hrow.form
  have HB : Hid (BytesRet p w (.returned (.tuple #[.slice a' p.length cap', .int .i64 0])) w') := Lib.hid ⟨a', cap', rfl, h1, h2, hrow, hfr⟩
  rw [Hn.out] at HB
  rw [Hn.out]
  clear hrow hfr h1 h2
  go_wp2_with fail
  go_ret2
  exact HB.out
end Go.Proofs.YtihahckjcedceaaDoor
