/-
  Layer 10, mathematics: a right batch is told by its bytes.
-/
import Derived.Test.YtidfjcaajejfoaaBaD
namespace Go.Proofs.Ytidfjcaajejfoaa
set_option linter.unusedVariables false

theorem enc_inj {n n' : Nat} {r r' : List UInt8} (h1 : n < 9223372036854775808) (h2 : n' < 9223372036854775808) (h : enc n ++ r = enc n' ++ r') : n = n' ∧ r = r' := by
  have a := dec_enc9 n r h1
  have b := dec_enc9 n' r' h2
  rw [h, b] at a
  simp only [Option.some.injEq, Prod.mk.injEq] at a
  obtain ⟨e1, _⟩ := a
  subst e1
  exact ⟨rfl, List.append_cancel_left h⟩
theorem bs_inj {s s' : ByteArray} (h : bs s = bs s') : s = s' := by
  rcases s with ⟨⟨l⟩⟩
  rcases s' with ⟨⟨l'⟩⟩
  have : l = l' := h
  rw [this]
theorem textB_inj {s s' : ByteArray} {r r' : List UInt8} (h1 : s.size ≤ 5000) (h2 : s'.size ≤ 5000) (h : textB s ++ r = textB s' ++ r') : s = s' ∧ r = r' := by
  unfold textB at h
  rw [List.append_assoc, List.append_assoc] at h
  obtain ⟨a, b⟩ := enc_inj (by omega) (by omega) h
  obtain ⟨c, d⟩ := List.append_inj b (by rw [bs_length, bs_length]; exact a)
  exact ⟨bs_inj c, d⟩
theorem size_zero {s : ByteArray} (h : s.size = 0) : s = ByteArray.empty := by
  rcases s with ⟨⟨l⟩⟩
  have : l.length = 0 := h
  rw [List.eq_nil_of_length_eq_zero this]
  rfl
theorem opB_inj {x x' : Op10} {r r' : List UInt8} (h1 : rightO x = true) (h2 : rightO x' = true) (h : opB x ++ r = opB x' ++ r') : x = x' ∧ r = r' := by
  obtain ⟨a1, a2, a3, a4⟩ := rightO_parts h1
  obtain ⟨b1, b2, b3, b4⟩ := rightO_parts h2
  obtain ⟨k, s, v⟩ := x
  obtain ⟨k', s', v'⟩ := x'
  simp only at a1 a2 a3 a4 b1 b2 b3 b4
  unfold opB at h
  simp only [List.cons_append, List.cons.injEq, List.append_assoc] at h
  obtain ⟨e0, e1⟩ := h
  obtain ⟨e2, e3⟩ := textB_inj (by omega) (by omega) e1
  rcases a4 with rfl | ⟨rfl, a5⟩ <;> rcases b4 with rfl | ⟨rfl, b5⟩
  · rw [if_pos rfl, if_pos rfl] at e3
    obtain ⟨e4, e5⟩ := textB_inj (by omega) (by omega) e3
    exact ⟨by rw [e2, e4], e5⟩
  · exact absurd e0 (by decide)
  · exact absurd e0 (by decide)
  · rw [if_neg (by decide)] at e3
    exact ⟨by rw [e2, size_zero a5, size_zero b5], by simpa using e3⟩
theorem opsB_inj : ∀ (l l' : List Op10) (r r' : List UInt8), l.length = l'.length → (∀ x ∈ l, rightO x = true) → (∀ x ∈ l', rightO x = true) → opsB l ++ r = opsB l' ++ r' → l = l' ∧ r = r'
  | [], [], r, r', _, _, _, h => ⟨rfl, by simpa [opsB] using h⟩
  | [], _ :: _, _, _, h, _, _, _ => by simp at h
  | _ :: _, [], _, _, h, _, _, _ => by simp at h
  | x :: l, x' :: l', r, r', hl, h1, h2, h => by
    have e : opsB (x :: l) = opB x ++ opsB l := rfl
    have e' : opsB (x' :: l') = opB x' ++ opsB l' := rfl
    rw [e, e', List.append_assoc, List.append_assoc] at h
    obtain ⟨a, b⟩ := opB_inj (h1 x (List.mem_cons_self ..)) (h2 x' (List.mem_cons_self ..)) h
    obtain ⟨c, d⟩ := opsB_inj l l' r r' (by simpa using hl) (fun y hy => h1 y (List.mem_cons_of_mem _ hy)) (fun y hy => h2 y (List.mem_cons_of_mem _ hy)) b
    exact ⟨by rw [a, c], d⟩
/-- ONE BATCH FOR ONE ROW OF BYTES. -/
theorem batchB_inj {q q' : Int} {l l' : List Op10} (h1 : allO q l = true) (h2 : allO q' l' = true) (h : batchB q.toNat l = batchB q'.toNat l') : q = q' ∧ l = l' := by
  obtain ⟨a1, a2, a3, a4, a5⟩ := allO_parts h1
  obtain ⟨b1, b2, b3, b4, b5⟩ := allO_parts h2
  unfold batchB at h
  rw [List.append_assoc, List.append_assoc] at h
  obtain ⟨e1, e2⟩ := enc_inj (by omega) (by omega) h
  obtain ⟨e3, e4⟩ := enc_inj (by omega) (by omega) e2
  obtain ⟨e5, _⟩ := opsB_inj l l' [] [] e3 a5 b5 (by rw [List.append_nil, List.append_nil]; exact e4)
  exact ⟨by omega, e5⟩
/-- How many bytes: of ops in another order as many, of one op more, more. -/
theorem batchB_len (q : Nat) (l : List Op10) : (batchB q l).length = (enc q).length + (enc l.length).length + (opsB l).length := by
  unfold batchB
  simp only [List.length_append]
theorem opsB_rev (l : List Op10) : (opsB l.reverse).length = (opsB l).length := by
  induction l with
  | nil => rfl
  | cons x l ih =>
    rw [List.reverse_cons, opsB_append, opsB_one, List.length_append, ih]
    show _ = (opB x ++ opsB l).length
    rw [List.length_append]
    omega
theorem batchB_rev (q : Nat) (l : List Op10) : (batchB q l.reverse).length = (batchB q l).length := by
  rw [batchB_len, batchB_len, opsB_rev, List.length_reverse]
theorem allO_rev (q : Int) (l : List Op10) : allO q l.reverse = allO q l := by
  unfold allO
  rw [List.length_reverse, List.all_reverse]
theorem enc_up {n : Nat} (h : n < 127) : (enc n).length = 1 ∧ (enc (n + 1)).length = 1 := ⟨enc_len_small (by omega), enc_len_small (by omega)⟩
theorem batchB_more (q : Nat) (l : List Op10) (x : Op10) (hl : l.length < 127) (hx : rightO x = true) : (batchB q l).length + x.key.size + x.val.size < (batchB q (l ++ [x])).length := by
  rw [batchB_len, batchB_len, opsB_append, opsB_one, List.length_append, List.length_append]
  obtain ⟨e1, e2⟩ := enc_up hl
  have : (l.length + [x].length) = l.length + 1 := rfl
  rw [this, e1, e2]
  obtain ⟨a1, a2, a3, a4⟩ := rightO_parts hx
  unfold opB textB
  have p1 := enc_pos x.key.size
  have p2 := enc_pos x.val.size
  rcases a4 with h | ⟨h, h0⟩
  · rw [if_pos h]
    simp only [List.length_cons, List.length_append, bs_length]
    omega
  · rw [if_neg (by omega)]
    simp only [List.length_cons, List.length_append, bs_length, List.length_nil]
    omega
end Go.Proofs.Ytidfjcaajejfoaa
