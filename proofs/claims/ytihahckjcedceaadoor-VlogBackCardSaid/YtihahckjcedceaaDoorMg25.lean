/-
  Texts of layer 14 and of what it stands on, one behind the other.
-/
import Derived.Test.YtihahckjcedceaaDoorMg11
import Derived.Test.YtihahckjcedceaaDoorMg20

/- Contracts of layer 2's reader: numbers. -/
namespace Go.Proofs.YtihahckjcedceaaDoor
set_option linter.unusedVariables false
open Go.RowKit

set_option maxHeartbeats 400000 in
theorem rnum_c (w : World) (B : Nat) (S : Nat → Prop) (st : St) (hr : Rr w B S st) :
    Calls Tryd.prog 37 #[.pointer (some ⟨B, 0, none⟩)] w (StRet (.int .i64 ((numS st).1 : Int)) B S (numS st).2 w) := by
  obtain ⟨l, bad⟩ := st
  have hr0 := hr
  obtain ⟨a, cap, hat, h2, h3, hin, hS⟩ := hr
  simp only at hat h2 hin
  have c2 : w.cell? ⟨B, 0, none⟩ = some (.slice a l.length cap) := by rw [hat.cell]; rfl
  have HD := Lib.hid (number_c a l.length cap l w rfl (by omega) hin.rd)
  have HC0 : Hid (∃ v : St, (v = (numS (l, bad)).2 ∧ ((v.2 = true ∧ ((numS (l, bad)).1 : Int) = 0) ∨ (v.2 = false ∧ (decI l).1 = ((numS (l, bad)).1 : Int)))) ∧ Calls Tryd.prog 63 #[.pointer (some ⟨B, 0, none⟩), .int .i64 0, .int .i64 (decI l).2] w fun e w' => ∃ u, SliceRet B S u v w e w') := by
    unfold decI numS
    simp only
    cases hd : dec 9 0 l with
    | none =>
      refine Lib.hid ⟨(l, true), ⟨by cases bad <;> rfl, .inl ⟨rfl, by cases bad <;> rfl⟩⟩, (take_bad 0 (-1) w B S l bad hr0 (.inr (by decide))).mono fun e w' h => ⟨_, h⟩⟩
    | some p =>
      obtain ⟨n, k⟩ := p
      obtain ⟨b1, b2, b3, b4⟩ := dec_lt9 l n k hd
      cases bad with
      | true => exact Lib.hid ⟨(l, true), ⟨rfl, .inl ⟨rfl, rfl⟩⟩, (take_bad 0 k w B S l true hr0 (.inl rfl)).mono fun e w' h => ⟨_, h⟩⟩
      | false =>
        refine Lib.hid ⟨(l.drop k, false), ⟨rfl, .inr ⟨rfl, rfl⟩⟩, (take_c 0 k w B S l hr0 (by omega) (by omega) (Nat.zero_le _)).mono fun e w' h => ⟨_, h.st rfl ?_⟩⟩
        unfold takeS
        rw [if_neg (by simp; omega)]
        simp
  clear hat h2 h3 hin hS hr0
  unfold retII at HD
  obtain ⟨v, ⟨hv, hvv⟩, hc⟩ := HC0.out
  clear HC0
  have HC := Lib.hid hc
  clear hc
  rw [← hv]
  generalize (numS (l, bad)).1 = N at hvv
  clear hv
  generalize (decI l).1 = n at *
  generalize (decI l).2 = k at *
  generalize l.length = len at *
  rcases hvv with ⟨hv, hN⟩ | ⟨hv, hN⟩
  · have Hv := Lib.hid hv
    have HN := Lib.hid hN
    clear hv hN
    go_enter Tryd.func37, Tryd.ntmps37
    go_wp2_with fail
    refine (show Calls _ _ _ _ _ from HD.out).mono ?_
    rintro e w' ⟨rfl, rfl⟩
    go_wp2_with fail
    refine (show Calls _ _ _ _ _ from HC.out).mono ?_
    rintro e w' ⟨u, a, cap, rfl, h1, h2, h3⟩
    have c3 : w'.cell? ⟨B, 1, none⟩ = some (.bool true) := by
      obtain ⟨a, cap, hat, _⟩ := h2
      rw [hat.cell, Hv.out]
      rfl
    have H2 := Lib.hid h2
    have H3 := Lib.hid h3
    clear h1 h2 h3
    go_wp2_with fail
    go_ret
    exact ⟨by rw [HN.out]; rfl, H2.out, H3.out⟩
  · have Hv := Lib.hid hv
    have HN := Lib.hid hN
    clear hv hN
    go_enter Tryd.func37, Tryd.ntmps37
    go_wp2_with fail
    refine (show Calls _ _ _ _ _ from HD.out).mono ?_
    rintro e w' ⟨rfl, rfl⟩
    go_wp2_with fail
    refine (show Calls _ _ _ _ _ from HC.out).mono ?_
    rintro e w' ⟨u, a, cap, rfl, h1, h2, h3⟩
    have c3 : w'.cell? ⟨B, 1, none⟩ = some (.bool false) := by
      obtain ⟨a, cap, hat, _⟩ := h2
      rw [hat.cell, Hv.out]
      rfl
    have H2 := Lib.hid h2
    have H3 := Lib.hid h3
    clear h1 h2 h3
    go_wp2_with fail
    go_ret
    exact ⟨by rw [← HN.out]; rfl, H2.out, H3.out⟩
end Go.Proofs.YtihahckjcedceaaDoor

/- Contracts of layer 3's Bytes. -/
namespace Go.Proofs.YtihahckjcedceaaDoor
set_option linter.unusedVariables false
open Go.RowKit

/-- BYTES of a right key. -/
theorem encK_of (u : List UInt8) (q k : Int) (n : Nat) (h : 1099511627776 - q = (n : Int)) : (escs u ++ [0, 1]) ++ (six n ++ [UInt8.ofNat (255 - k).toNat]) = encK u q k := by
  unfold encK tailB
  rw [h, List.append_assoc]
  rfl
def BytesRetK (l : List UInt8) (w : World) (e : Ending) (w' : World) : Prop := ∃ a cap, e = .returned (.tuple #[.slice a l.length cap, .int .i64 0]) ∧ Row w' (Gr No w w') (.slice a l.length cap) l ∧ Fr No w w'
set_option maxRecDepth 20000 in
set_option maxHeartbeats 800000 in
theorem bytes_yes (s : ByteArray) (q k : Int) (w : World) (h : Rt s.size q k) :
    Calls Tryd.prog 42 #[.agg #[.string s, .int .i64 q, .int .i64 k]] w (BytesRetK (encK s.data.toList q k) w) := by
  have C0 := Lib.hid (fun w => check_yes s q k w h)
  obtain ⟨h1, h2, h3, h4, h5, h6⟩ := h
  have C1 := fun w => putUser_c s (by omega) w
  obtain ⟨n, hn⟩ : ∃ n : Nat, 1099511627776 - q = (n : Int) := ⟨(1099511627776 - q).toNat, by omega⟩
  have C2 := fun S a len cap l w hS hl hrow => putTail_c S a len cap l n q k w hS hl hrow hn (by omega) h5 h6
  have hE := encK_of s.data.toList q k n hn
  have hlen : (escs s.data.toList ++ [0, 1]).length ≤ 10000 := by
    have := escs_length s.data.toList
    rw [ba_len] at this
    simp
    omega
  clear hn h1 h2 h3 h4 h5 h6
  generalize escs s.data.toList ++ [0, 1] = X at C1 hE hlen
  generalize six n ++ [UInt8.ofNat (255 - k).toNat] = T at C2 hE
  replace C2 := fun a cap (w w0 : World) (hrow : Row w (Gr No w0 w) (.slice a X.length cap) X) => C2 (Gr No w0 w) a X.length cap X w gr_lt hlen hrow
  rw [hE] at C2
  generalize encK s.data.toList q k = Y at C2 ⊢
  replace C1 := Lib.hid C1
  replace C2 := Lib.hid C2
  clear hE hlen T
  go_enter Tryd.func42, Tryd.ntmps42
  go_wp2_with fail
  have A1 : At _ w.heap.size _ _ := At.new w 43 #[.string s, .int .i64 q, .int .i64 k]
  have hf0 := (Fr.refl No w).alloc (.cells #[.string s, .int .i64 q, .int .i64 k] 43)
  generalize w.alloc (.cells #[.string s, .int .i64 q, .int .i64 k] 43) = W at *
  refine (C0.out _).mono ?_
  rintro e w1 ⟨rfl, hf1⟩
  have A2 := A1.keep hf1 (fun h => h)
  have a0 := A2.cell 0
  have a1 := A2.cell 1
  have a2 := A2.cell 2
  simp at a0 a1 a2
  have F1 := Lib.hid (hf0.trans hf1)
  have HB := Lib.hid (show w.heap.size < w1.heap.size from A2.lt)
  clear A1 A2 hf0 hf1
  go_wp2_with fail
  go_region_held3 (fun w' => w'.cell? ⟨w.heap.size, 0, none⟩ = some (.string s) ∧ w'.cell? ⟨w.heap.size, 1, none⟩ = some (.int .i64 q) ∧ w'.cell? ⟨w.heap.size, 2, none⟩ = some (.int .i64 k)) (first | assumption | go_keep)
    (first
      | (go_at_call 67; refine (C1.out _).mono ?_; intro e w2 hret; obtain ⟨v, rfl, hrow, hf⟩ := hret; obtain ⟨a, cap, rfl, _, _, _⟩ := hrow.form
         have c0 := hf.cell (p := ⟨w.heap.size, 0, none⟩) (v := .string s) a0 (fun h => h)
         have c1 := hf.cell (p := ⟨w.heap.size, 1, none⟩) (v := .int .i64 q) a1 (fun h => h)
         have c2 := hf.cell (p := ⟨w.heap.size, 2, none⟩) (v := .int .i64 k) a2 (fun h => h)
         have HF1 := Lib.hid hf
         have HW := Lib.hid hrow
         clear hrow hf)
      | (go_at_call 66; refine (C2.out _ _ _ _ HW.out).mono ?_; intro e w3 hret; obtain ⟨v, rfl, hrow, hf⟩ := hret; obtain ⟨a, cap, rfl, _, _, _⟩ := hrow.form
         have hno : ¬ Gr No w1.drew w2 w.heap.size := fun h => by
           rcases h with h | h
           · exact h
           · exact absurd h.1 (Nat.not_le_of_lt HB.out)
         have d0 := hf.cell (p := ⟨w.heap.size, 0, none⟩) (v := .string s) c0 hno
         have d1 := hf.cell (p := ⟨w.heap.size, 1, none⟩) (v := .int .i64 q) c1 hno
         have d2 := hf.cell (p := ⟨w.heap.size, 2, none⟩) (v := .int .i64 k) c2 hno
         have HF3 := Lib.hid (F1.out.drew.trans (HF1.out.then_ hf fun k hk h => Gr.old hk h))
         have HW3 := Lib.hid (show Row w3 (Gr No w w3) _ _ from (hrow.join HF1.out.size hf.size).sub (fun k hk h => by
           rcases h with h | h
           · exact h.elim
           · exact .inr ⟨Nat.le_trans F1.out.size h.1, hk⟩))
         clear hrow hf hno))
  go_wp2_with fail
  go_ret2
  exact ⟨_, _, rfl, HW3.out, HF3.out⟩
theorem bytes_no (s : ByteArray) (q k : Int) (w : World) (h : ¬ Rt s.size q k) :
    Calls Tryd.prog 42 #[.agg #[.string s, .int .i64 q, .int .i64 k]] w (PlainRet (.tuple #[.slice none 0 0, .int .i64 30]) w) := by
  have C0 := Lib.hid (fun w => check_no s q k w h)
  clear h
  go_enter Tryd.func42, Tryd.ntmps42
  go_wp2_with fail
  have hf0 := (Fr.refl No w).alloc (.cells #[.string s, .int .i64 q, .int .i64 k] 43)
  refine (C0.out _).mono ?_
  rintro e w1 ⟨rfl, hf1⟩
  have F1 := Lib.hid (hf0.trans hf1)
  clear hf0 hf1
  go_wp2_with fail
  go_ret2
  exact ⟨rfl, F1.out⟩
end Go.Proofs.YtihahckjcedceaaDoor
