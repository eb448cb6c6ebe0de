/-
  Contracts of layer 3's Bytes.
-/
import Derived.Test.YtggjkpgkmohmdaaIkC
namespace Go.Proofs.Ytggjkpgkmohmdaa
set_option linter.unusedVariables false
open Go.RowKit

/-- BYTES of a right key. -/
theorem encK_of (u : List UInt8) (q k : Int) (n : Nat) (h : 1099511627776 - q = (n : Int)) : (escs u ++ [0, 1]) ++ (six n ++ [UInt8.ofNat (255 - k).toNat]) = encK u q k := by
  unfold encK tailB
  rw [h, List.append_assoc]
  rfl
def BytesRet (l : List UInt8) (w : World) (e : Ending) (w' : World) : Prop := ∃ a cap, e = .returned (.tuple #[.slice a l.length cap, .int .i64 0]) ∧ Row w' (Gr No w w') (.slice a l.length cap) l ∧ Fr No w w'
set_option maxRecDepth 20000 in
set_option maxHeartbeats 800000 in
theorem bytes_yes (s : ByteArray) (q k : Int) (w : World) (h : Rt s.size q k) :
    Calls Try.prog 29 #[.agg #[.string s, .int .i64 q, .int .i64 k]] w (BytesRet (encK s.data.toList q k) w) := by
  have C0 := Lib.hid (fun w => check_yes s q k w h)
  obtain ⟨h1, h2, h3, h4, h5, h6⟩ := h
  have C1 := fun w => putUser_c s (by omega) w
  obtain ⟨n, hn⟩ : ∃ n : Nat, 1099511627776 - q = (n : Int) := ⟨(1099511627776 - q).toNat, by omega⟩
  have C2 := fun S a len cap l w hS hl hrow => putTail_c S a len cap l n q k w hS hl hrow hn (by omega) h5 h6
  have hE := encK_of s.data.toList q k n hn
  have hlen : (escs s.data.toList ++ [0, 1]).length ≤ 10000 := by
    have := escs_length s.data.toList
    rw [ba_len] at this
    simp
    omega
  clear hn h1 h2 h3 h4 h5 h6
  generalize escs s.data.toList ++ [0, 1] = X at C1 hE hlen
  generalize six n ++ [UInt8.ofNat (255 - k).toNat] = T at C2 hE
  replace C2 := fun a cap (w w0 : World) (hrow : Row w (Gr No w0 w) (.slice a X.length cap) X) => C2 (Gr No w0 w) a X.length cap X w gr_lt hlen hrow
  rw [hE] at C2
  generalize encK s.data.toList q k = Y at C2 ⊢
  replace C1 := Lib.hid C1
  replace C2 := Lib.hid C2
  clear hE hlen T
  go_enter Try.func29, Try.ntmps29
  go_wp2_with fail
  have A1 : At _ w.heap.size _ _ := At.new w 37 #[.string s, .int .i64 q, .int .i64 k]
  have hf0 := (Fr.refl No w).alloc (.cells #[.string s, .int .i64 q, .int .i64 k] 37)
  generalize w.alloc (.cells #[.string s, .int .i64 q, .int .i64 k] 37) = W at *
  refine (C0.out _).mono ?_
  rintro e w1 ⟨rfl, hf1⟩
  have A2 := A1.keep hf1 (fun h => h)
  have a0 := A2.cell 0
  have a1 := A2.cell 1
  have a2 := A2.cell 2
  simp at a0 a1 a2
  have F1 := Lib.hid (hf0.trans hf1)
  have HB := Lib.hid (show w.heap.size < w1.heap.size from A2.lt)
  clear A1 A2 hf0 hf1
  go_wp2_with fail
  go_region_held3 (fun w' => w'.cell? ⟨w.heap.size, 0, none⟩ = some (.string s) ∧ w'.cell? ⟨w.heap.size, 1, none⟩ = some (.int .i64 q) ∧ w'.cell? ⟨w.heap.size, 2, none⟩ = some (.int .i64 k)) (first | assumption | go_keep)
    (first
      | (go_at_call 43; refine (C1.out _).mono ?_; intro e w2 hret; obtain ⟨v, rfl, hrow, hf⟩ := hret; obtain ⟨a, cap, rfl, _, _, _⟩ := hrow.form
         have c0 := hf.cell (p := ⟨w.heap.size, 0, none⟩) (v := .string s) a0 (fun h => h)
         have c1 := hf.cell (p := ⟨w.heap.size, 1, none⟩) (v := .int .i64 q) a1 (fun h => h)
         have c2 := hf.cell (p := ⟨w.heap.size, 2, none⟩) (v := .int .i64 k) a2 (fun h => h)
         have HF1 := Lib.hid hf
         have HW := Lib.hid hrow
         clear hrow hf)
      | (go_at_call 42; refine (C2.out _ _ _ _ HW.out).mono ?_; intro e w3 hret; obtain ⟨v, rfl, hrow, hf⟩ := hret; obtain ⟨a, cap, rfl, _, _, _⟩ := hrow.form
         have hno : ¬ Gr No w1.drew w2 w.heap.size := fun h => by
           rcases h with h | h
           · exact h
           · exact absurd h.1 (Nat.not_le_of_lt HB.out)
         have d0 := hf.cell (p := ⟨w.heap.size, 0, none⟩) (v := .string s) c0 hno
         have d1 := hf.cell (p := ⟨w.heap.size, 1, none⟩) (v := .int .i64 q) c1 hno
         have d2 := hf.cell (p := ⟨w.heap.size, 2, none⟩) (v := .int .i64 k) c2 hno
         have HF3 := Lib.hid (F1.out.drew.trans (HF1.out.then_ hf fun k hk h => Gr.old hk h))
         have HW3 := Lib.hid (show Row w3 (Gr No w w3) _ _ from (hrow.join HF1.out.size hf.size).sub (fun k hk h => by
           rcases h with h | h
           · exact h.elim
           · exact .inr ⟨Nat.le_trans F1.out.size h.1, hk⟩))
         clear hrow hf hno))
  go_wp2_with fail
  go_ret2
  exact ⟨_, _, rfl, HW3.out, HF3.out⟩
theorem bytes_no (s : ByteArray) (q k : Int) (w : World) (h : ¬ Rt s.size q k) :
    Calls Try.prog 29 #[.agg #[.string s, .int .i64 q, .int .i64 k]] w (PlainRet (.tuple #[.slice none 0 0, .int .i64 30]) w) := by
  have C0 := Lib.hid (fun w => check_no s q k w h)
  clear h
  go_enter Try.func29, Try.ntmps29
  go_wp2_with fail
  have hf0 := (Fr.refl No w).alloc (.cells #[.string s, .int .i64 q, .int .i64 k] 37)
  refine (C0.out _).mono ?_
  rintro e w1 ⟨rfl, hf1⟩
  have F1 := Lib.hid (hf0.trans hf1)
  clear hf0 hf1
  go_wp2_with fail
  go_ret2
  exact ⟨rfl, F1.out⟩
end Go.Proofs.Ytggjkpgkmohmdaa
