/-
  Texts of layer 14 and of what it stands on, one behind the other.
-/
import Derived.Test.YtihahckjcedceaaDoorMg05
import Derived.Test.YtihahckjcedceaaDoorMg04
import Derived.Laws.MakeOwn
import Derived.Laws.CopyOwn
import Derived.Laws.BytesArg

/- Contracts of layer 2's functions that make bytes: clone, the document's Number and Text, Copy; and Same. -/
namespace Go.Proofs.YtihahckjcedceaaDoor
set_option linter.unusedVariables false
open Go.RowKit

theorem enc_more (p : List UInt8) (q n : Nat) (h : 128 ≤ q) (he : p ++ enc q = enc n) : (p ++ [UInt8.ofNat (q % 128 + 128)]) ++ enc (q / 128) = enc n := by
  rw [enc_big h] at he
  rw [← he]
  simp
theorem enc_last (p : List UInt8) (q n : Nat) (h : q < 128) (he : p ++ enc q = enc n) : p ++ [UInt8.ofNat q] = enc n := by
  rw [enc_small h] at he
  exact he
theorem enc_part (p : List UInt8) (q n : Nat) (h : n < 9223372036854775808) (he : p ++ enc q = enc n) : p.length ≤ 9 := by
  have := enc_len9 h
  rw [← he, List.length_append] at this
  omega
set_option maxRecDepth 20000 in
set_option maxHeartbeats 800000 in
theorem refNumber_c (n : Nat) (w : World) (h : n < 9223372036854775808) :
    Calls Tryd.prog 39 #[.int .i64 (n : Int)] w (NewRow (enc n) w) := by
  go_enter Tryd.func39, Tryd.ntmps39
  go_wp2_with fail
  go_loopw [0, 3] (fun x v wr => ∃ (q : Nat) (p : List UInt8), x = .int .i64 q ∧ q < 9223372036854775808 ∧ Row wr (Gr No w wr) v p ∧ Fr No w wr ∧ p ++ enc q = enc n) (fun x _ _ => (intOf x).toNat)
  case atStart => exact ⟨n, [], rfl, h, Row.nil _ _, Fr.refl _ _, rfl⟩
  case round =>
    obtain ⟨q, p, rfl, hq, hrow, hfr, he⟩ := hrel
    have hp := enc_part p q n h he
    by_cases hbig : 128 ≤ q
    · obtain ⟨v', w1, hrun, hrow1, hfr1⟩ := hrow.push (fun k hk => by rcases hk with hk | hk; exact hk.elim; exact hk.2) (UInt8.ofNat (q % 128 + 128)) (by omega)
      rw [toNat_ofNat (by omega), show ((q % 128 + 128 : Nat) : Int) = (q : Int) % 128 + 128 by omega] at hrun
      have HRUN := Lib.hid hrun
      have HR1 := Lib.hid (hrow1.join hfr.size hfr1.size)
      have HF1 := Lib.hid (hfr.then_ hfr1 fun k hk h => Gr.old hk h)
      have He := Lib.hid (enc_more p q n hbig he)
      clear hrun hrow1 hfr1 hfr he hrow hp
      go_wp2_with (at_builtin; refine wpList_append_run rfl _ _ 51 rfl rfl rfl HRUN.out ?_)
      go_roundw
      case rel => exact ⟨q / 128, _, rfl, by omega, HR1.out, HF1.out, He.out⟩
      case measure => simp [intOf]; omega
    · obtain ⟨v', w1, hrun, hrow1, hfr1⟩ := hrow.push (fun k hk => by rcases hk with hk | hk; exact hk.elim; exact hk.2) (UInt8.ofNat q) (by omega)
      rw [toNat_ofNat (by omega)] at hrun
      rw [enc_last p q n (by omega) he] at hrow1
      have HRUN := Lib.hid hrun
      have HN : Hid (NewRow (enc n) w (.returned v') w1) := Lib.hid ⟨v', rfl, hrow1.join hfr.size hfr1.size, hfr.then_ hfr1 fun k hk h => Gr.old hk h⟩
      clear hrun hrow1 hfr1 hfr he hrow hp
      go_wp2_with (at_builtin; refine wpList_append_run rfl _ _ 51 rfl rfl rfl HRUN.out ?_)
      go_ret
      exact HN.out
/-- A copy whose run is known. -/
theorem wpList_copy_run {P : Program} {w : World} {ops : Array Oper} {rest : List Oper} {o : Oper} {a : Act} {Q : Exit → Act → World → Prop} (hgd : o.guard = none) (s x : Operand) (dT sT : TypeId)
    (ho : o.op = .call { callee := .builtin .copy, args := #[s, x], argTypes := #[dT, sT] }) {v u v' : Value} {w' : World} (hs : a.eval s = v) (hx : a.eval x = u)
    (hr : (Builtin.copy_ #[dT, sT] o.type #[v, u]).run P w = .ok v' w') (h : wpList P ops Q rest (a.put o.dst v') w') : wpList P ops Q (o :: rest) a w := by
  refine wpList_plain hgd fun K hK => ?_
  unfold Oper.wp
  simp only [execOp, ho, resolve, invoke, builtin, Sem.run_bind, Sem.run_pure, Result.andThen_ok, List.map_toArray, List.map_cons, List.map_nil, hs, hx, hr]
  exact hK _ _ h

theorem make_bytes (w : World) (n : Nat) (h : n ≤ 140737488355328) :
    (Instr.makeSlice 51 (.int .i64 (n : Int)) (.int .i64 (n : Int))).run Tryd.prog w = .ok (.slice (some ⟨w.heap.size, 0, none⟩) n n) (w.alloc (.cells (madeCells #[.int .u8 0] n) 5)) := by
  obtain ⟨i0, hi, hz0, hz1, hz2⟩ := info_parts infoU8
  have hr := run_make (P := Tryd.prog) w 51 5 i0 (.int .u8 0) Tryd.underlying51 hi hz0 .i64 .i64 n n (by omega) (by omega) (by rw [hz2]; omega) (by omega)
  rw [hz1] at hr
  simp only [Int.toNat_natCast, Nat.mul_one] at hr
  exact hr
theorem copy_bytes (w : World) (a : Option Addr) (len cap : Nat) (l : List UInt8) (hl : l.length = len) (hr : Rd w a l) (ty : TypeId) (hm : len ≤ maxLen) :
    ∃ W, (Builtin.copy_ #[51, 51] ty #[.slice (some ⟨w.heap.size, 0, none⟩) len len, .slice a len cap]).run Tryd.prog (w.alloc (.cells (madeCells #[.int .u8 0] len) 5)) = .ok (goInt len) W ∧
      Row W (Gr No w W) (.slice (some ⟨w.heap.size, 0, none⟩) len len) l ∧ Fr No w W := by
  have f := (Fr.refl No w).alloc (.cells (madeCells #[.int .u8 0] len) 5)
  have hsz : (Tryd.prog.info? 5).map (·.size) = some 1 := by kernel_rfl
  subst hl
  by_cases h0 : l = []
  · subst h0
    refine ⟨_, run_copy_none (P := Tryd.prog) _ 51 51 ty 5 _ a 0 0 0 cap Tryd.underlying51 hsz rfl, ?_, f⟩
    refine ⟨⟨rfl, .inr ⟨w.heap.size, 0, madeCells #[.int .u8 0] 0, rfl, Nat.zero_le _, heap_alloc_new w _, Nat.le_refl _, by simp [maxLen], by simp [size_madeCells], by simp⟩⟩, ?_⟩
    intro k hk
    have : w.heap.size = k := Option.some.inj hk
    subst this
    exact .inr ⟨Nat.le_refl _, by simp⟩
  · obtain ⟨b, o, rfl, hc⟩ := hr (List.length_pos_iff.mpr h0)
    have hlen : (l.map byt).length = l.length := by simp
    have hrun := run_copy_row (P := Tryd.prog) (w.alloc (.cells (madeCells #[.int .u8 0] l.length) 5)) 51 51 ty 5 w.heap.size 0 l.length l.length ⟨b, o, none⟩ l.length cap
      (madeCells #[.int .u8 0] l.length) 5 (l.map byt) Tryd.underlying51 hsz (heap_alloc_new w _) (by rw [hlen]; exact (Nat.min_self _).symm)
      (fun j u hu => by
        have hj : j < l.length := by
          rcases Nat.lt_or_ge j l.length with h' | h'
          · exact h'
          · rw [List.getElem?_eq_none (by simpa using h')] at hu; cases hu
        have e : (⟨b, o, none⟩ : Addr).add j = ⟨b, o + j, none⟩ := by unfold Addr.add; split <;> simp_all
        rw [e]
        refine f.cell ?_ (fun h => h)
        rw [hc j hj]
        simp [hj] at hu
        simp [List.getD, hj, hu]) (by rw [hlen, size_madeCells]; omega) (by intro u hu; obtain ⟨x, _, rfl⟩ := List.mem_map.1 hu; rfl)
    rw [hlen] at hrun
    refine ⟨_, hrun, ⟨⟨by simp, .inr ⟨w.heap.size, l.length, _, rfl, Nat.zero_le _, setRow_heap _ _ _ _ _ _ (heap_alloc_new w _), Nat.le_refl _, hm, ?_, ?_⟩⟩, ?_⟩, ?_⟩
    · simp [size_madeCells]
    · simp
    · intro k hk
      have : w.heap.size = k := Option.some.inj hk
      subst this
      exact .inr ⟨Nat.le_refl _, by simp [World.setRow]⟩
    · refine ⟨rfl, rfl, rfl, by simp [World.setRow], fun k hk _ => ?_⟩
      rw [setRow_other _ _ _ _ (by omega)]
      exact Below.heap_alloc w _ k hk

set_option maxHeartbeats 400000 in
theorem clone_c (a : Option Addr) (len cap : Nat) (l : List UInt8) (w : World) (hl : l.length = len) (hm : len ≤ 140737488355328) (hr : Rd w a l) :
    Calls Tryd.prog 61 #[.slice a len cap] w (NewRow l w) := by
  obtain ⟨W, hrun, hrow, hfr⟩ := copy_bytes w a len cap l hl hr 3 (by unfold maxLen; omega)
  have hmk := make_bytes w len hm
  have HN : Hid (NewRow l w (.returned (.slice (some ⟨w.heap.size, 0, none⟩) len len)) W) := Lib.hid ⟨_, rfl, hrow, hfr⟩
  clear hrow hfr hl hr
  go_enter Tryd.func61, Tryd.ntmps61
  go_wp2_with fail
  go_ret
  exact HN.out
end Go.Proofs.YtihahckjcedceaaDoor
