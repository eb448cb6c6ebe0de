/-
  Texts of layer 13 and of what it stands on, one behind the other.
-/
import Derived.Test.YtlobnbbndkhcbaaGreatDoorMg06
import Derived.Test.YtlobnbbndkhcbaaGreatDoorMg05
import Derived.Laws.MakeOwn
import Derived.Laws.CopyOwn
import Derived.Laws.BytesArg

/- Contracts of layer 2's functions that make bytes: clone, the document's Number and Text, Copy; and Same. -/
namespace Go.Proofs.YtlobnbbndkhcbaaGreatDoor
set_option linter.unusedVariables false
open Go.RowKit

theorem enc_more (p : List UInt8) (q n : Nat) (h : 128 ≤ q) (he : p ++ enc q = enc n) : (p ++ [UInt8.ofNat (q % 128 + 128)]) ++ enc (q / 128) = enc n := by
  rw [enc_big h] at he
  rw [← he]
  simp
theorem enc_last (p : List UInt8) (q n : Nat) (h : q < 128) (he : p ++ enc q = enc n) : p ++ [UInt8.ofNat q] = enc n := by
  rw [enc_small h] at he
  exact he
theorem enc_part (p : List UInt8) (q n : Nat) (h : n < 9223372036854775808) (he : p ++ enc q = enc n) : p.length ≤ 9 := by
  have := enc_len9 h
  rw [← he, List.length_append] at this
  omega
set_option maxRecDepth 20000 in
set_option maxHeartbeats 800000 in
theorem refNumber_c (n : Nat) (w : World) (h : n < 9223372036854775808) :
    Calls Tryz.prog 47 #[.int .i64 (n : Int)] w (NewRow (enc n) w) := by
  go_enter Tryz.func47, Tryz.ntmps47
  go_wp2_with fail
  go_loopw [0, 3] (fun x v wr => ∃ (q : Nat) (p : List UInt8), x = .int .i64 q ∧ q < 9223372036854775808 ∧ Row wr (Gr No w wr) v p ∧ Fr No w wr ∧ p ++ enc q = enc n) (fun x _ _ => (intOf x).toNat)
  case atStart => exact ⟨n, [], rfl, h, Row.nil _ _, Fr.refl _ _, rfl⟩
  case round =>
    obtain ⟨q, p, rfl, hq, hrow, hfr, he⟩ := hrel
    have hp := enc_part p q n h he
    by_cases hbig : 128 ≤ q
    · obtain ⟨v', w1, hrun, hrow1, hfr1⟩ := hrow.push (fun k hk => by rcases hk with hk | hk; exact hk.elim; exact hk.2) (UInt8.ofNat (q % 128 + 128)) (by omega)
      rw [toNat_ofNat (by omega), show ((q % 128 + 128 : Nat) : Int) = (q : Int) % 128 + 128 by omega] at hrun
      have HRUN := Lib.hid hrun
      have HR1 := Lib.hid (hrow1.join hfr.size hfr1.size)
      have HF1 := Lib.hid (hfr.then_ hfr1 fun k hk h => Gr.old hk h)
      have He := Lib.hid (enc_more p q n hbig he)
      clear hrun hrow1 hfr1 hfr he hrow hp
      go_wp2_with (at_builtin; refine wpList_append_run rfl _ _ 27 rfl rfl rfl HRUN.out ?_)
      go_roundw
      case rel => exact ⟨q / 128, _, rfl, by omega, HR1.out, HF1.out, He.out⟩
      case measure => simp [intOf]; omega
    · obtain ⟨v', w1, hrun, hrow1, hfr1⟩ := hrow.push (fun k hk => by rcases hk with hk | hk; exact hk.elim; exact hk.2) (UInt8.ofNat q) (by omega)
      rw [toNat_ofNat (by omega)] at hrun
      rw [enc_last p q n (by omega) he] at hrow1
      have HRUN := Lib.hid hrun
      have HN : Hid (NewRow (enc n) w (.returned v') w1) := Lib.hid ⟨v', rfl, hrow1.join hfr.size hfr1.size, hfr.then_ hfr1 fun k hk h => Gr.old hk h⟩
      clear hrun hrow1 hfr1 hfr he hrow hp
      go_wp2_with (at_builtin; refine wpList_append_run rfl _ _ 27 rfl rfl rfl HRUN.out ?_)
      go_ret
      exact HN.out
/-- A copy whose run is known. -/
theorem wpList_copy_run {P : Program} {w : World} {ops : Array Oper} {rest : List Oper} {o : Oper} {a : Act} {Q : Exit → Act → World → Prop} (hgd : o.guard = none) (s x : Operand) (dT sT : TypeId)
    (ho : o.op = .call { callee := .builtin .copy, args := #[s, x], argTypes := #[dT, sT] }) {v u v' : Value} {w' : World} (hs : a.eval s = v) (hx : a.eval x = u)
    (hr : (Builtin.copy_ #[dT, sT] o.type #[v, u]).run P w = .ok v' w') (h : wpList P ops Q rest (a.put o.dst v') w') : wpList P ops Q (o :: rest) a w := by
  refine wpList_plain hgd fun K hK => ?_
  unfold Oper.wp
  simp only [execOp, ho, resolve, invoke, builtin, Sem.run_bind, Sem.run_pure, Result.andThen_ok, List.map_toArray, List.map_cons, List.map_nil, hs, hx, hr]
  exact hK _ _ h

theorem make_bytes (w : World) (n : Nat) (h : n ≤ 140737488355328) :
    (Instr.makeSlice 27 (.int .i64 (n : Int)) (.int .i64 (n : Int))).run Tryz.prog w = .ok (.slice (some ⟨w.heap.size, 0, none⟩) n n) (w.alloc (.cells (madeCells #[.int .u8 0] n) 5)) := by
  obtain ⟨i0, hi, hz0, hz1, hz2⟩ := info_parts infoU8
  have hr := run_make (P := Tryz.prog) w 27 5 i0 (.int .u8 0) Tryz.underlying27 hi hz0 .i64 .i64 n n (by omega) (by omega) (by rw [hz2]; omega) (by omega)
  rw [hz1] at hr
  simp only [Int.toNat_natCast, Nat.mul_one] at hr
  exact hr
theorem copy_bytes (w : World) (a : Option Addr) (len cap : Nat) (l : List UInt8) (hl : l.length = len) (hr : Rd w a l) (ty : TypeId) (hm : len ≤ maxLen) :
    ∃ W, (Builtin.copy_ #[27, 27] ty #[.slice (some ⟨w.heap.size, 0, none⟩) len len, .slice a len cap]).run Tryz.prog (w.alloc (.cells (madeCells #[.int .u8 0] len) 5)) = .ok (goInt len) W ∧
      Row W (Gr No w W) (.slice (some ⟨w.heap.size, 0, none⟩) len len) l ∧ Fr No w W := by
  have f := (Fr.refl No w).alloc (.cells (madeCells #[.int .u8 0] len) 5)
  have hsz : (Tryz.prog.info? 5).map (·.size) = some 1 := by kernel_rfl
  subst hl
  by_cases h0 : l = []
  · subst h0
    refine ⟨_, run_copy_none (P := Tryz.prog) _ 27 27 ty 5 _ a 0 0 0 cap Tryz.underlying27 hsz rfl, ?_, f⟩
    refine ⟨⟨rfl, .inr ⟨w.heap.size, 0, madeCells #[.int .u8 0] 0, rfl, Nat.zero_le _, heap_alloc_new w _, Nat.le_refl _, by simp [maxLen], by simp [size_madeCells], by simp⟩⟩, ?_⟩
    intro k hk
    have : w.heap.size = k := Option.some.inj hk
    subst this
    exact .inr ⟨Nat.le_refl _, by simp⟩
  · obtain ⟨b, o, rfl, hc⟩ := hr (List.length_pos_iff.mpr h0)
    have hlen : (l.map byt).length = l.length := by simp
    have hrun := run_copy_row (P := Tryz.prog) (w.alloc (.cells (madeCells #[.int .u8 0] l.length) 5)) 27 27 ty 5 w.heap.size 0 l.length l.length ⟨b, o, none⟩ l.length cap
      (madeCells #[.int .u8 0] l.length) 5 (l.map byt) Tryz.underlying27 hsz (heap_alloc_new w _) (by rw [hlen]; exact (Nat.min_self _).symm)
      (fun j u hu => by
        have hj : j < l.length := by
          rcases Nat.lt_or_ge j l.length with h' | h'
          · exact h'
          · rw [List.getElem?_eq_none (by simpa using h')] at hu; cases hu
        have e : (⟨b, o, none⟩ : Addr).add j = ⟨b, o + j, none⟩ := by unfold Addr.add; split <;> simp_all
        rw [e]
        refine f.cell ?_ (fun h => h)
        rw [hc j hj]
        simp [hj] at hu
        simp [List.getD, hj, hu]) (by rw [hlen, size_madeCells]; omega) (by intro u hu; obtain ⟨x, _, rfl⟩ := List.mem_map.1 hu; rfl)
    rw [hlen] at hrun
    refine ⟨_, hrun, ⟨⟨by simp, .inr ⟨w.heap.size, l.length, _, rfl, Nat.zero_le _, setRow_heap _ _ _ _ _ _ (heap_alloc_new w _), Nat.le_refl _, hm, ?_, ?_⟩⟩, ?_⟩, ?_⟩
    · simp [size_madeCells]
    · simp
    · intro k hk
      have : w.heap.size = k := Option.some.inj hk
      subst this
      exact .inr ⟨Nat.le_refl _, by simp [World.setRow]⟩
    · refine ⟨rfl, rfl, rfl, by simp [World.setRow], fun k hk _ => ?_⟩
      rw [setRow_other _ _ _ _ (by omega)]
      exact Below.heap_alloc w _ k hk

set_option maxHeartbeats 400000 in
theorem clone_c (a : Option Addr) (len cap : Nat) (l : List UInt8) (w : World) (hl : l.length = len) (hm : len ≤ 140737488355328) (hr : Rd w a l) :
    Calls Tryz.prog 129 #[.slice a len cap] w (NewRow l w) := by
  obtain ⟨W, hrun, hrow, hfr⟩ := copy_bytes w a len cap l hl hr 3 (by unfold maxLen; omega)
  have hmk := make_bytes w len hm
  have HN : Hid (NewRow l w (.returned (.slice (some ⟨w.heap.size, 0, none⟩) len len)) W) := Lib.hid ⟨_, rfl, hrow, hfr⟩
  clear hrow hfr hl hr
  go_enter Tryz.func129, Tryz.ntmps129
  go_wp2_with fail
  go_ret
  exact HN.out
end Go.Proofs.YtlobnbbndkhcbaaGreatDoor

/- Contracts of layer 2's writer: raw bytes, numbers, Bytes. -/
namespace Go.Proofs.YtlobnbbndkhcbaaGreatDoor
set_option linter.unusedVariables false
open Go.RowKit

/-- A writer at block B: what was put lies within S. -/
def Wr (w : World) (B : Nat) (S : Nat → Prop) (p : List UInt8) (bad : Bool) : Prop :=
  ∃ v, At w B 155 #[v, .bool bad] ∧ Row w S v p ∧ ¬ S B ∧ ∀ k, S k → k < w.heap.size
def ptr (B : Nat) : Value := .pointer (some ⟨B, 0, none⟩)
def WrRet (B : Nat) (S : Nat → Prop) (p : List UInt8) (bad : Bool) (w : World) (e : Ending) (w' : World) : Prop :=
  e = .returned (.pointer (some ⟨B, 0, none⟩)) ∧ Wr w' B (Gr S w w') p bad ∧ Fr (Two (One B) S) w w'

theorem size_set (w : World) (p : Addr) (u : Value) : (w.setCell p u).heap.size = w.heap.size := by simp [World.setCell]
theorem Gr.same {S : Nat → Prop} {w a b : World} (h : a.heap.size = b.heap.size) : Gr S w a = Gr S w b := by unfold Gr; rw [h]
theorem Wr.lt {w : World} {B : Nat} {S : Nat → Prop} {p : List UInt8} {bad : Bool} (h : Wr w B S p bad) : B < w.heap.size := by
  obtain ⟨v, h1, _⟩ := h
  exact h1.lt
theorem Wr.keep {w w' : World} {B : Nat} {S T : Nat → Prop} {p : List UInt8} {bad : Bool} (h : Wr w B S p bad) (f : Fr T w w') (hB : ¬ T B) (hS : ∀ k, S k → ¬ T k) : Wr w' B S p bad := by
  obtain ⟨v, h1, h2, h3, h4⟩ := h
  exact ⟨v, h1.keep f hB, h2.keep f hS, h3, fun k hk => Nat.lt_of_lt_of_le (h4 k hk) f.size⟩
theorem Wr.sub {w : World} {B : Nat} {S T : Nat → Prop} {p : List UInt8} {bad : Bool} (h : Wr w B S p bad) (hs : ∀ k, S k → T k) (hB : ¬ T B) (hT : ∀ k, T k → k < w.heap.size) : Wr w B T p bad := by
  obtain ⟨v, h1, h2, h3, h4⟩ := h
  exact ⟨v, h1, h2.sub fun k _ => hs k, hB, hT⟩
theorem Wr.len {w : World} {B : Nat} {S : Nat → Prop} {p : List UInt8} {bad : Bool} (h : Wr w B S p bad) : p.length ≤ maxLen := by
  obtain ⟨v, h1, h2, h3, h4⟩ := h
  obtain ⟨a, cap, _, h5, h6, _⟩ := h2.form
  omega
/-- A new writer. -/
theorem Wr.new (w : World) : Wr (w.alloc (.cells #[.slice none 0 0, .bool false] 155)) w.heap.size No [] false :=
  ⟨_, At.new _ _ _, Row.nil _ _, fun h => h, fun k h => h.elim⟩

/-- What an append to the writer's bytes, and the store of what it tells, make. -/
theorem Wr.put {w w0 W : World} {B : Nat} {S : Nat → Prop} {p q : List UInt8} {bad : Bool} {v v' : Value} (hat : At w B 155 #[v, .bool bad]) (hB : ¬ S B) (hS : ∀ k, S k → k < w.heap.size)
    (hrow : Row W (Gr S w W) v' q) (hfr : Fr S w W) :
    W.cell? ⟨B, 0, none⟩ = some v ∧ W.frozen? ⟨B, 0, none⟩ = false ∧ Wr (W.setCell ⟨B, 0, none⟩ v') B (Gr S w (W.setCell ⟨B, 0, none⟩ v')) q bad ∧ Fr (Two (One B) S) w (W.setCell ⟨B, 0, none⟩ v') := by
  have h1 := hat.keep hfr hB
  have f1 : Fr (One B) W (W.setCell ⟨B, 0, none⟩ v') := (Fr.refl (One B) W).setCell (p := ⟨B, 0, none⟩) (fun _ => rfl) v'
  have hgB : ¬ Gr S w W B := fun h => by
    rcases h with h | h
    · exact hB h
    · have := hat.lt; omega
  refine ⟨by rw [h1.cell]; rfl, h1.frozen 0, ?_, (hfr.sub fun k _ h => .inr h).then_ f1 fun k _ h => .inl h⟩
  rw [Gr.same (size_set W _ _)]
  refine ⟨v', h1.set_ 0 v', hrow.keep f1 fun k hk h => ?_, hgB, fun k hk => ?_⟩
  · have : k = B := h
    subst this
    exact hgB hk
  · rw [size_set]
    rcases hk with hk | hk
    · exact Nat.lt_of_lt_of_le (hS k hk) hfr.size
    · exact hk.2

set_option maxHeartbeats 400000 in
theorem wraw_c (a : Option Addr) (len cap : Nat) (l : List UInt8) (w : World) (B : Nat) (S : Nat → Prop) (p : List UInt8) (bad : Bool) (hw : Wr w B S p bad) (hl : l.length = len) (hm : p.length + len ≤ 140737488355328) (hr : Rd w a l) :
    Calls Tryz.prog 130 #[.pointer (some ⟨B, 0, none⟩), .slice a len cap] w (WrRet B S (p ++ l) bad w) := by
  obtain ⟨v, hat, hrow, hB, hS⟩ := hw
  obtain ⟨v', W, hrun, hrow', hfr⟩ := hrow.append a len cap l hl hr hm
  obtain ⟨a', n', cap', rfl⟩ := hrow'.shape
  obtain ⟨c1, c2, c3, c4⟩ := Wr.put (w0 := w) (p := p) hat hB hS hrow' hfr
  have HN : Hid (WrRet B S (p ++ l) bad w (.returned (.pointer (some ⟨B, 0, none⟩))) (W.setCell ⟨B, 0, none⟩ _)) := Lib.hid ⟨rfl, c3, c4⟩
  have c0 : w.cell? ⟨B, 0, none⟩ = some v := by rw [hat.cell]; rfl
  have HRUN := Lib.hid hrun
  clear hrun hrow hrow' hfr hat hB hS c3 c4 hr hl
  go_enter Tryz.func130, Tryz.ntmps130
  go_wp2_with (at_builtin; refine wpList_append_run rfl _ _ 27 rfl rfl rfl HRUN.out ?_)
  go_ret
  exact HN.out

theorem WrRet.from {B : Nat} {S : Nat → Prop} {p : List UInt8} {bad : Bool} {w a : World} {e : Ending} {w' : World} (f : Fr (Two (One B) S) w a) (h : WrRet B (Gr S w a) p bad a e w') : WrRet B S p bad w e w' := by
  obtain ⟨h1, h2, h3⟩ := h
  have hB : B < w.heap.size → True := fun _ => trivial
  refine ⟨h1, ?_, f.then_ h3 fun k hk h => ?_⟩
  · have hlt := h2.lt
    refine h2.sub (fun k hk => Gr.join f.size h3.size k hk) ?_ ?_
    · intro hg
      obtain ⟨v, _, _, hn, _⟩ := h2
      rcases hg with hg | hg
      · exact hn (.inl (.inl hg))
      · rcases Nat.lt_or_ge B a.heap.size with h' | h'
        · exact hn (.inl (.inr ⟨hg.1, h'⟩))
        · exact hn (.inr ⟨h', hg.2⟩)
    · intro k hk
      obtain ⟨v, _, _, _, hS⟩ := h2
      rcases hk with hk | hk
      · exact hS k (.inl (.inl hk))
      · exact hk.2
  · rcases h with h | h
    · exact .inl h
    · exact .inr (Gr.old hk h)
theorem and127_i64 (n : Nat) (h : n < 9223372036854775808) : bits .and .i64 (n : Int) 127 = ((n % 128 : Nat) : Int) := by
  have e := and_i64 n 127 h (by decide)
  have e2 : n &&& 127 = n % 128 := Nat.and_two_pow_sub_one_eq_mod n 7
  rw [e2] at e
  exact e
theorem or128_i64 (y : Nat) (h : y < 128) : bits .or .i64 (y : Int) 128 = ((y + 128 : Nat) : Int) := by
  have e := or_i64 y 128 (by omega) (by decide)
  have e2 : y ||| 128 = y + 128 := by
    have := or_low y 1 1 (by simpa using h)
    simpa using this
  rw [e2] at e
  exact e

set_option maxHeartbeats 400000 in
theorem wnum_neg (n : Int) (w : World) (B : Nat) (S : Nat → Prop) (p : List UInt8) (bad : Bool) (hw : Wr w B S p bad) (hn : n < 0) :
    Calls Tryz.prog 103 #[.pointer (some ⟨B, 0, none⟩), .int .i64 n] w (WrRet B S p true w) := by
  obtain ⟨v, hat, hrow, hB, hS⟩ := hw
  have c0 : w.cell? ⟨B, 1, none⟩ = some (.bool bad) := by rw [hat.cell]; rfl
  have c1 : w.frozen? ⟨B, 1, none⟩ = false := hat.frozen 1
  have f : Fr (Two (One B) S) w (w.setCell ⟨B, 1, none⟩ (.bool true)) := (Fr.refl _ _).setCell (fun _ => .inl rfl) _
  have HN : Hid (WrRet B S p true w (.returned (.pointer (some ⟨B, 0, none⟩))) (w.setCell ⟨B, 1, none⟩ (.bool true))) := Lib.hid ⟨rfl, by
    have f1 : Fr (One B) w (w.setCell ⟨B, 1, none⟩ (.bool true)) := (Fr.refl (One B) w).setCell (p := ⟨B, 1, none⟩) (fun _ => rfl) _
    have e : Gr S w (w.setCell ⟨B, 1, none⟩ (.bool true)) = S := by
      funext k
      unfold Gr
      rw [size_set]
      exact propext ⟨fun h => h.elim id fun h => absurd h.1 (by omega), .inl⟩
    rw [e]
    exact ⟨v, hat.set_ 1 _, hrow.keep f1 fun k hk h => hB (by have : k = B := h; subst this; exact hk), hB, fun k hk => by rw [size_set]; exact hS k hk⟩, f⟩
  clear hat hrow hB hS f
  go_enter Tryz.func103, Tryz.ntmps103
  go_wp2_with fail
  go_ret
  exact HN.out

/-- What holds at each round's head of Number's loop. -/
def NumInv (n B : Nat) (S : Nat → Prop) (p : List UInt8) (bad : Bool) (w : World) (L k q : Nat) (wr : World) : Prop :=
  q < 9223372036854775808 ∧ k + 1 ≤ L ∧ (enc q).length = L - k ∧ ∃ r, r ++ enc q = p ++ enc n ∧ r.length + (enc q).length ≤ 140737488355328 ∧ Wr wr B (Gr S w wr) r bad ∧ Fr (Two (One B) S) w wr
theorem Gr.refl_ {S : Nat → Prop} (w : World) : Gr S w w = S := by
  funext k
  unfold Gr
  exact propext ⟨fun h => h.elim id fun h => absurd h.1 (by omega), .inl⟩
theorem NumInv.start (n B : Nat) (S : Nat → Prop) (p : List UInt8) (bad : Bool) (w : World) (hn : n < 9223372036854775808) (hw : Wr w B S p bad) (hm : p.length + 9 ≤ 140737488355328) : NumInv n B S p bad w (enc n).length 0 n w := by
  have := enc_len9 hn
  exact ⟨hn, enc_pos n, by omega, p, rfl, by omega, by rw [Gr.refl_]; exact hw, Fr.refl _ _⟩
/-- The writer's bytes, taken on by one more. -/
theorem Wr.step {w : World} {B : Nat} {S : Nat → Prop} {p : List UInt8} {bad : Bool} (hw : Wr w B S p bad) (c : UInt8) (hm : p.length < 140737488355328) :
    ∃ v a' n' c' W, w.cell? ⟨B, 0, none⟩ = some v ∧ (Builtin.append_ #[27, 27] 27 #[v, .slice (some ⟨w.heap.size, 0, none⟩) 1 1]).run Tryz.prog (w.alloc (.cells #[.int .u8 (c.toNat : Int)] 5)) = .ok (.slice a' n' c') W ∧
      W.cell? ⟨B, 0, none⟩ = some v ∧ W.frozen? ⟨B, 0, none⟩ = false ∧ WrRet B S (p ++ [c]) bad w (.returned (.pointer (some ⟨B, 0, none⟩))) (W.setCell ⟨B, 0, none⟩ (.slice a' n' c')) := by
  obtain ⟨v, hat, hrow, hB, hS⟩ := hw
  obtain ⟨v', W, hrun, hrow', hfr⟩ := hrow.push hS c hm
  obtain ⟨a', n', cap', rfl⟩ := hrow'.shape
  obtain ⟨c1, c2, c3, c4⟩ := Wr.put (w0 := w) (p := p) hat hB hS hrow' hfr
  exact ⟨v, a', n', cap', W, by rw [hat.cell]; rfl, hrun, c1, c2, rfl, c3, c4⟩
theorem NumInv.more {n B : Nat} {S : Nat → Prop} {p : List UInt8} {bad : Bool} {w wr W : World} {L k q : Nat} (h : NumInv n B S p bad w L k q wr) (hk : k + 1 < L) :
    128 ≤ q ∧ ∃ v a' n' c' W, wr.cell? ⟨B, 0, none⟩ = some v ∧ (Builtin.append_ #[27, 27] 27 #[v, .slice (some ⟨wr.heap.size, 0, none⟩) 1 1]).run Tryz.prog (wr.alloc (.cells #[.int .u8 ((q % 128 + 128 : Nat) : Int)] 5)) = .ok (.slice a' n' c') W ∧
      W.cell? ⟨B, 0, none⟩ = some v ∧ W.frozen? ⟨B, 0, none⟩ = false ∧ NumInv n B S p bad w L (k + 1) (q / 128) (W.setCell ⟨B, 0, none⟩ (.slice a' n' c')) := by
  obtain ⟨h1, h2, h3, r, h4, h5, h6, h7⟩ := h
  have hq : 128 ≤ q := by
    rcases Nat.lt_or_ge q 128 with h | h
    · rw [enc_len_small h] at h3; omega
    · exact h
  have hl := enc_len_big hq
  obtain ⟨v, a', n', c', W, g1, g2, g3, g4, g5⟩ := h6.step (UInt8.ofNat (q % 128 + 128)) (by omega)
  rw [toNat_ofNat (by omega)] at g2
  obtain ⟨_, g6, g7⟩ := WrRet.from h7 g5
  refine ⟨hq, v, a', n', c', W, g1, g2, g3, g4, by omega, by omega, by omega, _, ?_, ?_, g6, g7⟩
  · rw [← h4, enc_big hq]
    simp
  · simp only [List.length_append, List.length_cons, List.length_nil]
    omega
theorem NumInv.last {n B : Nat} {S : Nat → Prop} {p : List UInt8} {bad : Bool} {w wr W : World} {L k q : Nat} (h : NumInv n B S p bad w L k q wr) (hk : k + 1 = L) :
    q < 128 ∧ ∃ v a' n' c' W, wr.cell? ⟨B, 0, none⟩ = some v ∧ (Builtin.append_ #[27, 27] 27 #[v, .slice (some ⟨wr.heap.size, 0, none⟩) 1 1]).run Tryz.prog (wr.alloc (.cells #[.int .u8 (q : Int)] 5)) = .ok (.slice a' n' c') W ∧
      W.cell? ⟨B, 0, none⟩ = some v ∧ W.frozen? ⟨B, 0, none⟩ = false ∧ WrRet B S (p ++ enc n) bad w (.returned (.pointer (some ⟨B, 0, none⟩))) (W.setCell ⟨B, 0, none⟩ (.slice a' n' c')) := by
  obtain ⟨h1, h2, h3, r, h4, h5, h6, h7⟩ := h
  have hq : q < 128 := by
    rcases Nat.lt_or_ge q 128 with h | h
    · exact h
    · rw [enc_len_big h] at h3
      have := enc_pos (q / 128)
      omega
  have hl := enc_len_small hq
  obtain ⟨v, a', n', c', W, g1, g2, g3, g4, g5⟩ := h6.step (UInt8.ofNat q) (by omega)
  rw [toNat_ofNat (by omega)] at g2
  have g6 := WrRet.from h7 g5
  rw [enc_small hq] at h4
  rw [h4] at g6
  exact ⟨hq, v, a', n', c', W, g1, g2, g3, g4, g6⟩

set_option maxRecDepth 20000 in
set_option maxHeartbeats 800000 in
theorem wnum_c (n : Nat) (w : World) (B : Nat) (S : Nat → Prop) (p : List UInt8) (bad : Bool) (hw : Wr w B S p bad) (hn : n < 9223372036854775808) (hm : p.length + 9 ≤ 140737488355328) :
    Calls Tryz.prog 103 #[.pointer (some ⟨B, 0, none⟩), .int .i64 (n : Int)] w (WrRet B S (p ++ enc n) bad w) := by
  have HI := Lib.hid (NumInv.start n B S p bad w hn hw hm)
  have HS := Lib.hid (size_c n w hn)
  have h9 := enc_len9 hn
  have h1 := enc_pos n
  generalize hL : (enc n).length = L at HI HS h9 h1
  have HL := Lib.hid hL
  clear hL hw
  go_enter Tryz.func103, Tryz.ntmps103
  go_wp2_with fail
  refine (show Calls _ _ _ _ _ from HS.out).mono ?_
  rintro e w' ⟨rfl, rfl⟩
  clear HS
  go_wp2_with fail
  go_loopw [1, 14] (fun x i wr => ∃ (k q : Nat), x = .int .i64 q ∧ i = .int .i64 k ∧ NumInv n B S p bad w L k q wr) (fun _ i _ => L - (intOf i).toNat)
  case atStart => exact ⟨0, n, rfl, rfl, HI.out⟩
  case round =>
    obtain ⟨k, q, rfl, rfl, hi⟩ := hrel
    have hq63 := hi.1
    have hkL := hi.2.1
    clear HI
    by_cases hk : k + 1 < L
    · obtain ⟨hq, v, a', n', c', W, c0, hrun, c1, c2, hnext⟩ := hi.more (W := wr) hk
      have HRUN := Lib.hid hrun
      have HX := Lib.hid hnext
      have e1 := and127_i64 q hq63
      have e2 := or128_i64 (q % 128) (Nat.mod_lt _ (by decide))
      have hy : q % 128 < 128 := Nat.mod_lt _ (by decide)
      generalize q % 128 = y at HRUN e1 e2 hy
      clear hrun hnext hi
      go_wp2_with (at_builtin; refine wpList_append_run rfl _ _ 27 rfl rfl rfl HRUN.out ?_)
      go_roundw
      case rel => exact ⟨k + 1, q / 128, by first | rfl | go_num, by go_num, HX.out⟩
      case measure => simp [intOf]; omega
    · obtain ⟨hq, v, a', n', c', W, c0, hrun, c1, c2, hnext⟩ := hi.last (W := wr) (by omega)
      have HRUN := Lib.hid hrun
      have HX := Lib.hid hnext
      clear hrun hnext hi
      go_wp2_with (at_builtin; refine wpList_append_run rfl _ _ 27 rfl rfl rfl HRUN.out ?_)
      go_ret
      exact HX.out
/-- What Bytes tells. -/
def BytesRet (p : List UInt8) (w : World) (e : Ending) (w' : World) : Prop := ∃ a cap, e = .returned (.tuple #[.slice a p.length cap, .int .i64 0]) ∧ p.length ≤ cap ∧ cap ≤ maxLen ∧ Row w' (Gr No w w') (.slice a p.length cap) p ∧ Fr No w w'
set_option maxHeartbeats 400000 in
theorem wbytes_bad (w : World) (B : Nat) (S : Nat → Prop) (p : List UInt8) (hw : Wr w B S p true) :
    Calls Tryz.prog 104 #[.pointer (some ⟨B, 0, none⟩)] w fun e w' => e = .returned (.tuple #[.slice none 0 0, .int .i64 20]) ∧ w = w' := by
  obtain ⟨v, hat, hrow, hB, hS⟩ := hw
  have c0 : w.cell? ⟨B, 1, none⟩ = some (.bool true) := by rw [hat.cell]; rfl
  clear hat hrow hB hS
  go_enter Tryz.func104, Tryz.ntmps104
  go_wp2_with fail
  go_ret2
  exact ⟨rfl, rfl⟩
set_option maxHeartbeats 400000 in
theorem wbytes_c (w : World) (B : Nat) (S : Nat → Prop) (p : List UInt8) (hw : Wr w B S p false) (hm : p.length ≤ 140737488355328) :
    Calls Tryz.prog 104 #[.pointer (some ⟨B, 0, none⟩)] w (BytesRet p w) := by
  obtain ⟨v, hat, hrow, hB, hS⟩ := hw
  obtain ⟨a, cap, rfl, _, _, hin⟩ := hrow.form
  have c0 : w.cell? ⟨B, 0, none⟩ = some (.slice a p.length cap) := by rw [hat.cell]; rfl
  have c1 : w.cell? ⟨B, 1, none⟩ = some (.bool false) := by rw [hat.cell]; rfl
  have HC := Lib.hid (clone_c a p.length cap p w rfl hm hin.rd)
  clear hat hrow hB hS hin
  generalize hn : p.length = n at *
  have Hn := Lib.hid hn
  clear hn
  go_enter Tryz.func104, Tryz.ntmps104
  go_wp2_with fail
  refine (show Calls _ _ _ _ _ from HC.out).mono ?_
  rintro e w' ⟨v, rfl, hrow, hfr⟩
  obtain ⟨a', cap', rfl, h1, h2, _⟩ := hrow.form
  have HB : Hid (BytesRet p w (.returned (.tuple #[.slice a' p.length cap', .int .i64 0])) w') := Lib.hid ⟨a', cap', rfl, h1, h2, hrow, hfr⟩
  rw [Hn.out] at HB
  rw [Hn.out]
  clear hrow hfr h1 h2
  go_wp2_with fail
  go_ret2
  exact HB.out
end Go.Proofs.YtlobnbbndkhcbaaGreatDoor

/- Contracts of layer 2's reader: take, NewReader. -/
namespace Go.Proofs.YtlobnbbndkhcbaaGreatDoor
set_option linter.unusedVariables false
open Go.RowKit

/-- A reader at block B, in state st: what is left lies within S. -/
def Rr (w : World) (B : Nat) (S : Nat → Prop) (st : St) : Prop :=
  ∃ a cap, At w B 193 #[.slice a st.1.length cap, .bool st.2] ∧ st.1.length ≤ cap ∧ cap ≤ maxLen ∧ In w S a st.1 ∧ ¬ S B
theorem Rr.keep {w w' : World} {B : Nat} {S T : Nat → Prop} {st : St} (h : Rr w B S st) (f : Fr T w w') (hB : ¬ T B) (hS : ∀ k, S k → ¬ T k) : Rr w' B S st := by
  obtain ⟨a, cap, h1, h2, h3, h4, h5⟩ := h
  exact ⟨a, cap, h1.keep f hB, h2, h3, h4.keep f hS, h5⟩
theorem Rr.lt {w : World} {B : Nat} {S : Nat → Prop} {st : St} (h : Rr w B S st) : B < w.heap.size := by
  obtain ⟨a, cap, h1, _⟩ := h
  exact h1.lt
theorem Rr.len {w : World} {B : Nat} {S : Nat → Prop} {st : St} (h : Rr w B S st) : st.1.length ≤ maxLen := by
  obtain ⟨a, cap, h1, h2, h3, _⟩ := h
  omega
/-- A slice comes back that reads l, and the reader is in state st'. -/
def SliceRet (B : Nat) (S : Nat → Prop) (l : List UInt8) (st' : St) (w : World) (e : Ending) (w' : World) : Prop :=
  ∃ a cap, e = .returned (.slice a l.length cap) ∧ In w' S a l ∧ Rr w' B S st' ∧ Fr (One B) w w'
def StRet (v : Value) (B : Nat) (S : Nat → Prop) (st' : St) (w : World) (e : Ending) (w' : World) : Prop :=
  e = .returned v ∧ Rr w' B S st' ∧ Fr (One B) w w'

theorem cut_three {t e : TypeId} (ht : Tryz.prog.underlying t = some (.slice e)) (hz : ∀ w, (sizeOf e).run Tryz.prog w = .ok 1 w) (a : Option Addr) (len cap lo hi : Nat) (h1 : lo ≤ hi) (h2 : hi ≤ cap) (w : World) :
    (Instr.slice t (.slice a len cap) (some (.int .i64 (lo : Int))) (some (.int .i64 (hi : Int))) (some (.int .i64 (hi : Int)))).run Tryz.prog w = .ok (.slice (cutAt a lo hi) (hi - lo) (hi - lo)) w := by
  have he : Tryz.prog.elem t = e := by simp [Program.elem, ht]
  have ht' : Tryz.prog.underlying t = some (.slice (Tryz.prog.elem t)) := by rw [he]; exact ht
  rw [run_slice_lhm w t a len cap ht' .i64 .i64 .i64 lo hi hi (by omega) (by omega) (by omega) (by omega), he, hz]
  simp [Result.andThen, sliced, cutAt]
theorem sizeU8 (w : World) : (sizeOf 5).run Tryz.prog w = .ok 1 w := by kernel_rfl
theorem In.cut {w : World} {S : Nat → Prop} {a : Option Addr} {l : List UInt8} (h : In w S a l) (lo n : Nat) (hn : lo + n ≤ l.length) : In w S (cutAt a lo (lo + n)) ((l.drop lo).take n) := by
  by_cases h0 : n = 0
  · subst h0
    rw [List.take_zero]
    exact In.nil _ _ _
  · have h1 := h.drop lo (lo + n + l.length) (by omega)
    have e : cutAt a lo (lo + n + l.length) = cutAt a lo (lo + n) := by
      unfold cutAt
      rw [if_neg (by omega), if_neg (by omega)]
    rw [e] at h1
    exact h1.take n

set_option maxRecDepth 20000 in
/-- A slice comes back, as above; how far it may be cut. -/
def SliceRetC (B : Nat) (S : Nat → Prop) (l : List UInt8) (st' : St) (w : World) (e : Ending) (w' : World) : Prop :=
  ∃ a cap, e = .returned (.slice a l.length cap) ∧ In w' S a l ∧ Rr w' B S st' ∧ Fr (One B) w w' ∧ l.length ≤ cap ∧ cap ≤ maxLen
theorem SliceRetC.ret {B : Nat} {S : Nat → Prop} {l : List UInt8} {st' : St} {w : World} {e : Ending} {w' : World} (h : SliceRetC B S l st' w e w') : SliceRet B S l st' w e w' := by
  obtain ⟨a, cap, h1, h2, h3, h4, _⟩ := h
  exact ⟨a, cap, h1, h2, h3, h4⟩
set_option maxHeartbeats 400000 in
/-- Where it is bad, or less than nothing is asked. -/
theorem takeC_bad (ah n : Int) (w : World) (B : Nat) (S : Nat → Prop) (l : List UInt8) (bad : Bool) (hr : Rr w B S (l, bad)) (h : bad = true ∨ n < 0) :
    Calls Tryz.prog 146 #[.pointer (some ⟨B, 0, none⟩), .int .i64 ah, .int .i64 n] w (SliceRetC B S [] (l, true) w) := by
  obtain ⟨a, cap, hat, h2, h3, hin, hS⟩ := hr
  have c0 : w.cell? ⟨B, 1, none⟩ = some (.bool bad) := by rw [hat.cell]; rfl
  have c1 : w.frozen? ⟨B, 1, none⟩ = false := hat.frozen 1
  have f : Fr (One B) w (w.setCell ⟨B, 1, none⟩ (.bool true)) := (Fr.refl (One B) w).setCell (p := ⟨B, 1, none⟩) (fun _ => rfl) _
  have HN : Hid (SliceRetC B S [] (l, true) w (.returned (.slice none 0 0)) (w.setCell ⟨B, 1, none⟩ (.bool true))) :=
    Lib.hid ⟨none, 0, rfl, In.nil _ _ _, ⟨a, cap, hat.set_ 1 _, h2, h3, hin.keep f fun k hk h => hS (by have : k = B := h; subst this; exact hk), hS⟩, f, Nat.le_refl _, Nat.zero_le _⟩
  clear hat hin hS f h2 h3
  cases bad with
  | true =>
    go_enter Tryz.func146, Tryz.ntmps146
    go_wp2_with fail
    go_ret
    exact HN.out
  | false =>
    have hn : n < 0 := by simpa using h
    go_enter Tryz.func146, Tryz.ntmps146
    go_wp2_with fail
    go_ret
    exact HN.out
set_option maxRecDepth 20000 in
set_option maxHeartbeats 400000 in
theorem takeC_c (ah : Nat) (n : Int) (w : World) (B : Nat) (S : Nat → Prop) (l : List UInt8) (hr : Rr w B S (l, false)) (hn0 : 0 ≤ n) (hn1 : n ≤ 9223372036854775807) (hah : ah ≤ l.length) :
    Calls Tryz.prog 146 #[.pointer (some ⟨B, 0, none⟩), .int .i64 (ah : Int), .int .i64 n] w (SliceRetC B S (takeS ah n (l, false)).1 (takeS ah n (l, false)).2 w) := by
  obtain ⟨a, cap, hat, h2, h3, hin, hS⟩ := hr
  simp only at hat h2 hin
  have c0 : w.cell? ⟨B, 1, none⟩ = some (.bool false) := by rw [hat.cell]; rfl
  have c1 : w.frozen? ⟨B, 1, none⟩ = false := hat.frozen 1
  have c2 : w.cell? ⟨B, 0, none⟩ = some (.slice a l.length cap) := by rw [hat.cell]; rfl
  have c3 : w.frozen? ⟨B, 0, none⟩ = false := hat.frozen 0
  unfold maxLen at h3
  by_cases hlt : (l.length : Int) - ah < n
  · have f : Fr (One B) w (w.setCell ⟨B, 1, none⟩ (.bool true)) := (Fr.refl (One B) w).setCell (p := ⟨B, 1, none⟩) (fun _ => rfl) _
    have HN : Hid (SliceRetC B S (takeS ah n (l, false)).1 (takeS ah n (l, false)).2 w (.returned (.slice none 0 0)) (w.setCell ⟨B, 1, none⟩ (.bool true))) := by
      have e : takeS ah n (l, false) = ([], (l, true)) := by unfold takeS; rw [if_pos (.inr (.inr hlt))]
      rw [e]
      exact Lib.hid ⟨none, 0, rfl, In.nil _ _ _, ⟨a, cap, hat.set_ 1 _, h2, by unfold maxLen; omega, hin.keep f fun k hk h => hS (by have : k = B := h; subst this; exact hk), hS⟩, f, Nat.le_refl _, Nat.zero_le _⟩
    clear hat hin hS f
    generalize l.length = len at *
    go_enter Tryz.func146, Tryz.ntmps146
    go_wp2_with fail
    go_ret
    exact HN.out
  · obtain ⟨m, rfl⟩ := Int.eq_ofNat_of_zero_le hn0
    obtain ⟨E, hE⟩ : ∃ E, E = ah + m := ⟨_, rfl⟩
    have hEl : E ≤ l.length := by omega
    have f : Fr (One B) w (w.setCell ⟨B, 0, none⟩ (.slice (cutAt a E cap) (l.length - E) (cap - E))) := (Fr.refl (One B) w).setCell (p := ⟨B, 0, none⟩) (fun _ => rfl) _
    have hSk : ∀ k, S k → ¬ One B k := fun k hk h => hS (by have : k = B := h; subst this; exact hk)
    have HN : Hid (SliceRetC B S (takeS ah m (l, false)).1 (takeS ah m (l, false)).2 w (.returned (.slice (cutAt a ah E) (E - ah) (E - ah))) (w.setCell ⟨B, 0, none⟩ (.slice (cutAt a E cap) (l.length - E) (cap - E)))) := by
      have e : takeS ah m (l, false) = ((l.drop ah).take m, (l.drop E, false)) := by
        unfold takeS
        rw [if_neg (by simp; omega), Int.toNat_natCast, hE]
      rw [e]
      have l1 : ((l.drop ah).take m).length = E - ah := by rw [List.length_take, List.length_drop]; omega
      refine Lib.hid ⟨cutAt a ah E, E - ah, by rw [l1], ?_, ⟨cutAt a E cap, cap - E, ?_, ?_, by unfold maxLen; omega, (hin.drop E cap h2).keep f hSk, hS⟩, f, by rw [l1]; exact Nat.le_refl _, by unfold maxLen; omega⟩
      · have h := hin.cut ah m (by omega)
        rw [← hE] at h
        exact h.keep f hSk
      · have := hat.set_ 0 (.slice (cutAt a E cap) (l.length - E) (cap - E))
        rw [List.length_drop]
        exact this
      · rw [List.length_drop]
        omega
    have S1 := cut_three Tryz.underlying27 sizeU8 a l.length cap ah E (by omega) (by omega)
    have S2 := cut_lo (P := Tryz.prog) Tryz.underlying27 sizeU8 a l.length cap E hEl
    have hEi : (ah : Int) + (m : Int) = (E : Int) := by omega
    have HE := Lib.hid hE
    clear hat hin hS f hSk hE
    generalize cutAt a E cap = a2 at *
    generalize cutAt a ah E = a1 at *
    generalize E - ah = d1 at *
    generalize hd2 : l.length - E = d2 at *
    generalize cap - E = d3 at *
    clear hd2
    generalize l.length = len at *
    go_enter Tryz.func146, Tryz.ntmps146
    go_wp2_with fail
    go_ret
    exact HN.out
theorem take_bad (ah n : Int) (w : World) (B : Nat) (S : Nat → Prop) (l : List UInt8) (bad : Bool) (hr : Rr w B S (l, bad)) (h : bad = true ∨ n < 0) :
    Calls Tryz.prog 146 #[.pointer (some ⟨B, 0, none⟩), .int .i64 ah, .int .i64 n] w (SliceRet B S [] (l, true) w) := (takeC_bad ah n w B S l bad hr h).mono fun _ _ h => h.ret
theorem take_c (ah : Nat) (n : Int) (w : World) (B : Nat) (S : Nat → Prop) (l : List UInt8) (hr : Rr w B S (l, false)) (hn0 : 0 ≤ n) (hn1 : n ≤ 9223372036854775807) (hah : ah ≤ l.length) :
    Calls Tryz.prog 146 #[.pointer (some ⟨B, 0, none⟩), .int .i64 (ah : Int), .int .i64 n] w (SliceRet B S (takeS ah n (l, false)).1 (takeS ah n (l, false)).2 w) := (takeC_c ah n w B S l hr hn0 hn1 hah).mono fun _ _ h => h.ret
theorem SliceRet.st {B : Nat} {S : Nat → Prop} {l l' : List UInt8} {st st' : St} {w : World} {e : Ending} {w' : World} (h : SliceRet B S l st w e w') (h1 : l = l') (h2 : st = st') : SliceRet B S l' st' w e w' := h1 ▸ h2 ▸ h
theorem takeS_len (ah : Nat) (n : Int) (st : St) : (takeS ah n st).1.length ≤ st.1.length := by
  unfold takeS
  split
  · simp
  · simp only [List.length_take, List.length_drop]
    omega

/-- What NewReader tells. -/
def NewR (l : List UInt8) (w : World) (e : Ending) (w' : World) : Prop := ∃ B S, e = .returned (.pointer (some ⟨B, 0, none⟩)) ∧ Rr w' B S (l, false) ∧ Fr No w w' ∧ w.heap.size ≤ B ∧ (∀ k, S k → w.heap.size ≤ k ∧ k < B)
set_option maxHeartbeats 400000 in
theorem newr_c (a : Option Addr) (len cap : Nat) (l : List UInt8) (w : World) (hl : l.length = len) (hm : len ≤ 140737488355328) (hr : Rd w a l) :
    Calls Tryz.prog 133 #[.slice a len cap] w (NewR l w) := by
  have HC := Lib.hid (clone_c a len cap l w hl hm hr)
  clear hl hr
  go_enter Tryz.func133, Tryz.ntmps133
  go_wp2_with fail
  refine (show Calls _ _ _ _ _ from HC.out).mono ?_
  rintro e w1 ⟨v, rfl, hrow, hfr⟩
  obtain ⟨a', cap', rfl, h1, h2, hin⟩ := hrow.form
  have f1 := hfr.alloc (.cells #[.slice a' l.length cap', .bool false] 193)
  have HN : Hid (NewR l w (.returned (.pointer (some ⟨w1.heap.size, 0, none⟩))) (w1.alloc (.cells #[.slice a' l.length cap', .bool false] 193))) :=
    Lib.hid ⟨w1.heap.size, Gr No w w1, rfl, ⟨a', cap', At.new _ _ _, h1, h2, hin.keep ((Fr.refl No w1).alloc _) (fun _ _ h => h), fun h => h.elim (fun h => h) fun h => absurd h.2 (by omega)⟩, f1, hfr.size, fun k hk => hk.elim (fun h => h.elim) fun h => h⟩
  clear hrow hfr hin h1 h2 f1
  generalize l.length = n at *
  go_wp2_with fail
  go_ret
  exact HN.out
end Go.Proofs.YtlobnbbndkhcbaaGreatDoor
