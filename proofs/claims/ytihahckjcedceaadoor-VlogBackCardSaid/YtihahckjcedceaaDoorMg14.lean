/-
  Texts of layer 14 and of what it stands on, one behind the other.
-/
import Derived.Test.YtihahckjcedceaaDoorMg03
import Derived.Test.YtihahckjcedceaaDoorMg02
import Derived.Lib.Hide
import Derived.Handy
import Derived.Test.YtihahckjcedceaaDoorMg01
import Derived.Test.YtihahckjcedceaaDoorMg09
import Derived.RangeFuncNested
import Derived.RangeFuncBound
import Derived.RangeFuncCalls
import Derived.RangeFuncLeaves
import Derived.TacticsInMore
import Derived.OwnWalkIn

/- A text's bytes. No program is named. -/
namespace Go.Proofs.YtihahckjcedceaaDoor

/-- A text's bytes. -/
def bs (s : ByteArray) : List UInt8 := s.data.toList
theorem bs_length (s : ByteArray) : (bs s).length = s.size := by unfold bs; rw [Array.length_toList]; rfl
end Go.Proofs.YtihahckjcedceaaDoor

/- A plain value that comes back; a text's bytes. No function is named. -/
namespace Go.Proofs.YtihahckjcedceaaDoor
set_option linter.unusedVariables false
open Go.RowKit

/-- A plain value comes back, and nothing that was there has turned. -/
def PlainRet (v : Value) (w : World) (e : Ending) (w' : World) : Prop := e = .returned v ∧ Fr No w w'

theorem ba_len (s : ByteArray) : s.data.toList.length = s.size := Array.length_toList
theorem ba_getD (s : ByteArray) (k : Nat) (h : k < s.size) : s.data.toList.getD k 0 = s[k] := by
  have h' : k < s.data.toList.length := by rw [ba_len]; exact h
  rw [List.getD_eq_getElem?_getD, List.getElem?_eq_getElem h']
  rfl
end Go.Proofs.YtihahckjcedceaaDoor

/- Plain mathematics of layer 9: a record's frame, what frames bytes begin with. No program is named. -/
namespace Go.Proofs.YtihahckjcedceaaDoor
set_option linter.unusedVariables false

/-- The mask of the sum of some bytes. -/
def sumW (l : List UInt8) : Int := mk ((Crc.of l).toNat : Int)
def wordL (c : Int) : List UInt8 := [byteOf (c / 16777216), byteOf (c / 65536 % 256), byteOf (c / 256 % 256), byteOf (c % 256)]
theorem wordL_length (c : Int) : (wordL c).length = 4 := rfl
theorem sumW_range (l : List UInt8) : 0 ≤ sumW l ∧ sumW l < 4294967296 := by unfold sumW mk; omega
def bodyL (b : List UInt8) : List UInt8 := enc b.length ++ b
def frameL (b : List UInt8) : List UInt8 := wordL (sumW (bodyL b)) ++ bodyL b
def sizeL (n : Nat) : Nat := 4 + (enc n).length + n
theorem frameL_length (b : List UInt8) : (frameL b).length = sizeL b.length := by
  unfold frameL bodyL sizeL
  rw [List.length_append, List.length_append, wordL_length]
  omega
theorem sizeL_pos (n : Nat) : 5 + n ≤ sizeL n := by
  have := enc_pos n
  unfold sizeL
  omega
theorem sizeL_le {n : Nat} (h : n < 9223372036854775808) : sizeL n ≤ 13 + n := by
  have := enc_len9 h
  unfold sizeL
  omega
theorem enc_len_mono' : ∀ (n m : Nat), n ≤ m → (enc n).length ≤ (enc m).length := by
  intro n
  induction n using Nat.strongRecOn with
  | _ n ih =>
    intro m h
    by_cases h1 : n < 128
    · rw [enc_len_small h1]
      exact enc_pos m
    · rw [enc_len_big (by omega), enc_len_big (show 128 ≤ m by omega)]
      have := ih (n / 128) (by omega) (m / 128) (by omega)
      omega
theorem enc_len_mono {n m : Nat} (h : n ≤ m) : (enc n).length ≤ (enc m).length := enc_len_mono' n m h
theorem sizeL_inj {n m : Nat} (h : sizeL n = sizeL m) : n = m := by
  rcases Nat.lt_trichotomy n m with h1 | h1 | h1
  · have := enc_len_mono (Nat.le_of_lt h1)
    unfold sizeL at h
    omega
  · exact h1
  · have := enc_len_mono (Nat.le_of_lt h1)
    unfold sizeL at h
    omega
theorem sizeL_mono {n m : Nat} (h : n ≤ m) : sizeL n ≤ sizeL m := by
  have := enc_len_mono h
  unfold sizeL
  omega
/-- What is read as a number has just that number's bytes. -/
theorem dec_take : ∀ (f i : Nat) (l : List UInt8) (n k : Nat), dec f i l = some (n, k) → (0 < i → 0 < n) ∧ l.take k = enc n := by
  intro f
  induction f with
  | zero => intro _ _ _ _ h; simp [dec] at h
  | succ f ih =>
    intro i l n k h
    cases l with
    | nil => simp [dec_nil] at h
    | cons c r =>
      rw [dec_cons] at h
      split at h
      · split at h
        · cases h
        · rename_i h1 h2
          simp only [Option.some.injEq, Prod.mk.injEq] at h
          obtain ⟨rfl, rfl⟩ := h
          refine ⟨fun hi => by omega, ?_⟩
          rw [enc_small h1]
          simp
      · rename_i h1
        cases hd : dec f (i + 1) r with
        | none => rw [hd] at h; cases h
        | some p =>
          rw [hd] at h
          simp only [Option.map_some, Option.some.injEq, Prod.mk.injEq] at h
          obtain ⟨rfl, rfl⟩ := h
          obtain ⟨a1, a2⟩ := ih (i + 1) r p.1 p.2 hd
          have a1 := a1 (by omega)
          have hc := c.toNat_lt
          refine ⟨fun _ => by omega, ?_⟩
          rw [enc_big (by omega), List.take_succ_cons, a2, show (c.toNat - 128 + 128 * p.1) / 128 = p.1 by omega, show (c.toNat - 128 + 128 * p.1) % 128 + 128 = c.toNat by omega]
          simp

/-- ONE FRAME AT THE HEAD: its record, and how many bytes it has. -/
def headF (l : List UInt8) : Option (List UInt8 × Nat) :=
  match dec 9 0 (l.drop 4) with
  | none => none
  | some (n, k) => if n ≤ l.length - (4 + k) ∧ l.take 4 = wordL (sumW ((l.drop 4).take (k + n))) then some ((l.drop (4 + k)).take n, 4 + k + n) else none
theorem headF_none {l : List UInt8} (h : dec 9 0 (l.drop 4) = none) : headF l = none := by
  unfold headF
  rw [h]
theorem headF_some {l : List UInt8} {n k : Nat} (h : dec 9 0 (l.drop 4) = some (n, k)) :
    headF l = if n ≤ l.length - (4 + k) ∧ l.take 4 = wordL (sumW ((l.drop 4).take (k + n))) then some ((l.drop (4 + k)).take n, 4 + k + n) else none := by
  unfold headF
  rw [h]
theorem headF_short {l : List UInt8} (h : l.length < 5) : headF l = none := by
  refine headF_none ?_
  cases hd : dec 9 0 (l.drop 4) with
  | none => rfl
  | some p =>
    obtain ⟨n, k⟩ := p
    have := dec_lt9 _ _ _ hd
    rw [List.length_drop] at this
    omega
/-- The parts of bytes that begin with a number. -/
theorem body_parts {l : List UInt8} {n k : Nat} (h : dec 9 0 (l.drop 4) = some (n, k)) (hn : n ≤ l.length - (4 + k)) :
    4 + k + n ≤ l.length ∧ ((l.drop (4 + k)).take n).length = n ∧ (l.drop 4).take (k + n) = bodyL ((l.drop (4 + k)).take n) ∧ (l.drop 4).take k = enc n := by
  obtain ⟨a1, a2, a3, a4⟩ := dec_lt9 _ _ _ h
  rw [List.length_drop] at a2
  have h1 : ((l.drop (4 + k)).take n).length = n := by rw [List.length_take, List.length_drop]; omega
  have h2 := (dec_take _ _ _ _ _ h).2
  refine ⟨by omega, h1, ?_, h2⟩
  unfold bodyL
  rw [h1, ← h2, List.take_add, List.drop_drop]
theorem headF_is {l x : List UInt8} {t : Nat} (h : headF l = some (x, t)) : t = (frameL x).length ∧ l.take t = frameL x ∧ t ≤ l.length := by
  cases hd : dec 9 0 (l.drop 4) with
  | none => rw [headF_none hd] at h; cases h
  | some p =>
    obtain ⟨n, k⟩ := p
    rw [headF_some hd] at h
    split at h
    · rename_i hc
      obtain ⟨c1, c2⟩ := hc
      simp only [Option.some.injEq, Prod.mk.injEq] at h
      obtain ⟨rfl, rfl⟩ := h
      obtain ⟨b1, b2, b3, b4⟩ := body_parts hd c1
      have hk : (enc n).length = k := by
        rw [← b4, List.length_take, List.length_drop]
        have := dec_lt9 _ _ _ hd
        rw [List.length_drop] at this
        omega
      have e1 : (frameL ((l.drop (4 + k)).take n)).length = 4 + k + n := by
        rw [frameL_length, b2]
        unfold sizeL
        omega
      refine ⟨e1.symm, ?_, b1⟩
      unfold frameL
      rw [← b3, ← c2, show 4 + k + n = 4 + (k + n) by omega, List.take_add]
    · cases h
theorem headF_frame (x r : List UInt8) (h : x.length < 9223372036854775808) : headF (frameL x ++ r) = some (x, (frameL x).length) := by
  have e0 : (frameL x ++ r).drop 4 = enc x.length ++ (x ++ r) := by
    unfold frameL bodyL
    rw [List.append_assoc, List.append_assoc]
    exact List.drop_left' (wordL_length _)
  have hd : dec 9 0 ((frameL x ++ r).drop 4) = some (x.length, (enc x.length).length) := by rw [e0]; exact dec_enc9 _ _ h
  have hl : (frameL x ++ r).length = sizeL x.length + r.length := by rw [List.length_append, frameL_length]
  have e1 : ((frameL x ++ r).drop 4).take ((enc x.length).length + x.length) = bodyL x := by
    rw [e0, ← List.append_assoc]
    exact List.take_left' (by rw [List.length_append])
  have e2 : (frameL x ++ r).take 4 = wordL (sumW (bodyL x)) := by
    unfold frameL
    rw [List.append_assoc]
    exact List.take_left' (wordL_length _)
  have e3 : (frameL x ++ r).drop (4 + (enc x.length).length) = x ++ r := by
    rw [← List.drop_drop, e0]
    exact List.drop_left' rfl
  rw [headF_some hd, if_pos ⟨by rw [hl]; unfold sizeL; omega, by rw [e1, e2]⟩, e3, List.take_left' rfl, frameL_length]
  rfl
theorem headF_cut (x : List UInt8) (h : x.length < 9223372036854775808) (k : Nat) (hk : k < (frameL x).length) : headF ((frameL x).take k) = none := by
  cases hh : headF ((frameL x).take k) with
  | none => rfl
  | some p =>
    obtain ⟨y, t⟩ := p
    obtain ⟨h1, h2, h3⟩ := headF_is hh
    rw [List.length_take] at h3
    have e : frameL x = frameL y ++ (frameL x).drop t := by
      rw [List.take_take, Nat.min_eq_left (by omega)] at h2
      rw [← h2, List.take_append_drop]
    have hy : y.length < 9223372036854775808 := by
      have h4 := frameL_length y
      have h5 := frameL_length x
      have h6 := sizeL_pos y.length
      have h7 := sizeL_le h
      rcases Nat.lt_or_ge y.length 9223372036854775808 with h8 | h8
      · exact h8
      · have h9 := sizeL_mono (Nat.le_trans (Nat.le_of_lt h) h8)
        omega
    have a := headF_frame y ((frameL x).drop t) hy
    rw [← e] at a
    have b := headF_frame x [] h
    rw [List.append_nil] at b
    rw [a] at b
    have := (Prod.mk.inj (Option.some.inj b)).2
    omega
/-- Frames, one behind the other. -/
def framesL : List (List UInt8) → List UInt8
  | [] => []
  | x :: xs => frameL x ++ framesL xs
theorem framesL_append : ∀ (xs ys : List (List UInt8)), framesL (xs ++ ys) = framesL xs ++ framesL ys
  | [], _ => rfl
  | x :: xs, ys => by
    show frameL x ++ framesL (xs ++ ys) = (frameL x ++ framesL xs) ++ framesL ys
    rw [framesL_append xs ys, List.append_assoc]
theorem framesL_snoc (xs : List (List UInt8)) (x : List UInt8) : framesL (xs ++ [x]) = framesL xs ++ frameL x := by
  rw [framesL_append]
  congr 1
  exact List.append_nil _
/-- THE RECORDS of bytes. -/
def Scn (l : List UInt8) (xs : List (List UInt8)) : Prop := ∃ r, l = framesL xs ++ r ∧ headF r = none
theorem Scn.le {l : List UInt8} {xs : List (List UInt8)} (h : Scn l xs) : (framesL xs).length ≤ l.length := by
  obtain ⟨r, rfl, _⟩ := h
  rw [List.length_append]
  omega
theorem Scn.take {l : List UInt8} {xs : List (List UInt8)} (h : Scn l xs) : l.take (framesL xs).length = framesL xs := by
  obtain ⟨r, rfl, _⟩ := h
  exact List.take_left' rfl
theorem framesL_le : ∀ {xs : List (List UInt8)} {x : List UInt8}, x ∈ xs → 5 + x.length ≤ (framesL xs).length
  | [], _, h => by cases h
  | y :: ys, x, h => by
    unfold framesL
    rw [List.length_append]
    rcases List.mem_cons.1 h with rfl | h
    · rw [frameL_length]
      have := sizeL_pos x.length
      omega
    · have := framesL_le h
      omega
theorem framesL_count : ∀ (xs : List (List UInt8)), xs.length * 5 ≤ (framesL xs).length
  | [] => by simp [framesL]
  | y :: ys => by
    unfold framesL
    have := framesL_count ys
    rw [List.length_append, List.length_cons, frameL_length]
    have := sizeL_pos y.length
    omega
theorem Scn.uniq : ∀ {xs ys : List (List UInt8)} {l : List UInt8}, l.length < 9223372036854775808 → Scn l xs → Scn l ys → xs = ys
  | [], [], _, _, _, _ => rfl
  | [], y :: ys, l, hl, ⟨r, e1, h1⟩, ⟨s, e2, h2⟩ => by
    exfalso
    rw [e2] at e1
    have hy : y.length < 9223372036854775808 := by
      have := framesL_le (xs := y :: ys) (List.mem_cons_self ..)
      have : (framesL (y :: ys)).length ≤ l.length := by rw [e2, List.length_append]; omega
      omega
    have e3 : r = frameL y ++ (framesL ys ++ s) := by
      rw [← List.append_assoc]
      exact e1.symm
    rw [e3, headF_frame y _ hy] at h1
    cases h1
  | x :: xs, [], l, hl, ⟨r, e1, h1⟩, ⟨s, e2, h2⟩ => by
    exfalso
    rw [e1] at e2
    have hx : x.length < 9223372036854775808 := by
      have := framesL_le (xs := x :: xs) (List.mem_cons_self ..)
      have : (framesL (x :: xs)).length ≤ l.length := by rw [e1, List.length_append]; omega
      omega
    have e3 : s = frameL x ++ (framesL xs ++ r) := by
      rw [← List.append_assoc]
      exact e2.symm
    rw [e3, headF_frame x _ hx] at h2
    cases h2
  | x :: xs, y :: ys, l, hl, ⟨r, e1, h1⟩, ⟨s, e2, h2⟩ => by
    have hx : x.length < 9223372036854775808 := by
      have := framesL_le (xs := x :: xs) (List.mem_cons_self ..)
      have : (framesL (x :: xs)).length ≤ l.length := by rw [e1, List.length_append]; omega
      omega
    have hy : y.length < 9223372036854775808 := by
      have := framesL_le (xs := y :: ys) (List.mem_cons_self ..)
      have : (framesL (y :: ys)).length ≤ l.length := by rw [e2, List.length_append]; omega
      omega
    have f1 : l = frameL x ++ (framesL xs ++ r) := by rw [← List.append_assoc]; exact e1
    have f2 : l = frameL y ++ (framesL ys ++ s) := by rw [← List.append_assoc]; exact e2
    have a := headF_frame x (framesL xs ++ r) hx
    have b := headF_frame y (framesL ys ++ s) hy
    rw [← f1] at a
    rw [← f2, a] at b
    obtain rfl := (Prod.mk.inj (Option.some.inj b)).1
    have f3 : framesL xs ++ r = framesL ys ++ s := by
      rw [f1] at f2
      exact List.append_cancel_left f2
    have hl2 : (framesL xs ++ r).length < 9223372036854775808 := by
      have := congrArg List.length f1
      rw [List.length_append] at this
      omega
    rw [Scn.uniq hl2 ⟨r, rfl, h1⟩ ⟨s, f3, h2⟩]
/-- They are there. -/
theorem scn_ex : ∀ (k : Nat) (l : List UInt8), l.length ≤ k → ∃ xs, Scn l xs
  | 0, l, h => ⟨[], l, rfl, headF_short (by omega)⟩
  | k + 1, l, h => by
    cases hh : headF l with
    | none => exact ⟨[], l, rfl, hh⟩
    | some p =>
      obtain ⟨x, t⟩ := p
      obtain ⟨h1, h2, h3⟩ := headF_is hh
      have h4 := frameL_length x
      have h5 := sizeL_pos x.length
      obtain ⟨xs, r, e, hr⟩ := scn_ex k (l.drop t) (by rw [List.length_drop]; omega)
      refine ⟨x :: xs, r, ?_, hr⟩
      unfold framesL
      rw [List.append_assoc, ← e, ← h2, List.take_append_drop]
noncomputable def scanL (l : List UInt8) : List (List UInt8) := Classical.choose (scn_ex l.length l (Nat.le_refl _))
theorem scanL_is (l : List UInt8) : Scn l (scanL l) := Classical.choose_spec (scn_ex l.length l (Nat.le_refl _))
theorem scanL_eq {l : List UInt8} {xs : List (List UInt8)} (hl : l.length < 9223372036854775808) (h : Scn l xs) : scanL l = xs := Scn.uniq hl (scanL_is l) h
/-! ### Rounds. -/
theorem scn_step {l : List UInt8} {pre : List (List UInt8)} {x : List UInt8} {t at_ : Nat} (h : l.take at_ = framesL pre) (hat : at_ ≤ l.length) (hh : headF (l.drop at_) = some (x, t)) : l.take (at_ + t) = framesL (pre ++ [x]) ∧ at_ + t ≤ l.length ∧ t = (frameL x).length := by
  obtain ⟨h1, h2, h3⟩ := headF_is hh
  rw [List.length_drop] at h3
  refine ⟨?_, by omega, h1⟩
  rw [List.take_add, h, h2, framesL_snoc]
theorem scn_end {l : List UInt8} {pre : List (List UInt8)} {at_ : Nat} (h : l.take at_ = framesL pre) (hh : headF (l.drop at_) = none) : Scn l pre := ⟨l.drop at_, by rw [← h, List.take_append_drop], hh⟩
end Go.Proofs.YtihahckjcedceaaDoor

/- Arguments opened: slices of bytes' slices; and that they read on as long as what was there stays. -/
namespace Go.Proofs.YtihahckjcedceaaDoor
set_option linter.unusedVariables false
open Go.ChangeShapes Go.WideShapes Go.ChangeAt Go.RowKit Go.Deep

/-- Texts. -/
structure Tx where
  a : Option Addr
  c : Nat
  b : List UInt8
structure TxAt (w : World) (b o : Nat) (x : Tx) : Prop where
  c0 : w.cell? ⟨b, o, none⟩ = some (.slice x.a x.b.length x.c)
  le : x.b.length ≤ x.c
  cm : x.c ≤ maxLen
  rd : Rd w x.a x.b
theorem TxAt.keep {w w' : World} {b o : Nat} {x : Tx} (h : TxAt w b o x) (f : Fr No w w') : TxAt w' b o x :=
  ⟨f.cell h.c0 (fun h => h), h.le, h.cm, h.rd.keep f⟩
def Texts (w : World) (a : Option Addr) (l : List Tx) : Prop := 0 < l.length → ∃ b o, a = some ⟨b, o, none⟩ ∧ ∀ i x, l[i]? = some x → TxAt w b (o + i) x
theorem Texts.keep {w w' : World} {a : Option Addr} {l : List Tx} (h : Texts w a l) (f : Fr No w w') : Texts w' a l := fun hl => by
  obtain ⟨b, o, ha, hx⟩ := h hl
  exact ⟨b, o, ha, fun i x hi => (hx i x hi).keep f⟩
section
variable {H : Type} {enc : TypeId × Value → H} {w : World} {base : Nat} {spare : Nat → Bool} {held : Bool}
theorem texts_of {fuel : Nat} {v : Value} {y : DataW H × List MemPlace} (h : DataW.trod enc Tryd.prog w base spare held fuel 69 [v] = some y) :
    ∃ a cap l, v = .slice a l.length cap ∧ l.length ≤ cap ∧ cap ≤ maxLen ∧ Texts w a l := by
  rcases open_slice Tryd.underlying69 h with ⟨hcs, _⟩ | ⟨x, len, cap, m, n, D, Pl, hcs, _, hl, hm, hmm, _, hi⟩
  · cases hcs
    exact ⟨none, 0, [], rfl, Nat.le_refl _, by simp [maxLen], fun h => absurd h (by simp)⟩
  · cases hcs
    have hml : len ≤ m := by rw [hmm]; split <;> omega
    have hc : Tryd.prog.cellsOf 51 = 1 := by kernel_rfl
    rw [hc] at hi
    obtain ⟨b, off, spot⟩ := x
    have hspot : 0 < len → spot = none := by
      intro h0
      obtain ⟨cs', h1, h2⟩ := hi 0 (by omega)
      obtain ⟨_, hcl, hat⟩ := World.cells?_some h1
      have h3 := hat 0 (by omega)
      rw [List.getElem?_eq_getElem (show 0 < cs'.length by omega)] at h3
      have := World.cell?_spot h3
      simpa [Addr.add] using this
    have hx : ∀ i, i < len → ∃ x : Tx, spot = none ∧ TxAt w b (off + i) x := by
      intro i hil
      have hs := hspot (by omega)
      subst hs
      obtain ⟨cs', h1, h2⟩ := hi i (by omega)
      obtain ⟨_, hcl, hat⟩ := World.cells?_some h1
      have h3 := hat 0 (by omega)
      match cs', hcl with
      | [u], _ =>
        obtain ⟨a, c, l, rfl, g1, g2, g3⟩ := bytes_of h2
        rw [add_plain, add_plain] at h3
        have h4 : w.cell? ⟨b, off + i, none⟩ = some (.slice a l.length c) := by simpa using h3
        exact ⟨⟨a, c, l⟩, rfl, h4, g1, g2, g3⟩
    obtain ⟨l, hll, hlp⟩ := list_of len hx
    refine ⟨some ⟨b, off, spot⟩, cap, l, by rw [hll], by omega, hm, fun h0 => ?_⟩
    have hs : spot = none := (hlp 0 (l[0]'h0) (List.getElem?_eq_getElem h0)).1
    subst hs
    exact ⟨b, off, rfl, fun i x hx => (hlp i x hx).2⟩
end
end Go.Proofs.YtihahckjcedceaaDoor

/- What a law on ranges over functions asks of an invariant: that it abides the turn of blocks that are no cells. In the words of Mem. -/
namespace Go.Proofs.YtihahckjcedceaaDoor
set_option linter.unusedVariables false
open Go.RowKit

/-- An append whose run is known, in a fence. -/
theorem wpListIn_append_run {F : Fence} {n : Nat} {P : Program} {w : World} {ops : Array Oper} {rest : List Oper} {o : Oper} {a : Act} {Q : Exit → Act → World → Prop} (hgd : o.guard = none) (s x : Operand) (t : TypeId)
    (ho : o.op = .call { callee := .builtin .append, args := #[s, x], argTypes := #[t, t] }) {v u v' : Value} {w' : World} (hs : a.eval s = v) (hx : a.eval x = u)
    (hr : (Builtin.append_ #[t, t] o.type #[v, u]).run P w = .ok v' w') (h : wpListIn F n P ops Q rest (a.put o.dst v') w') : wpListIn F n P ops Q (o :: rest) a w := by
  refine wpListIn_plain hgd fun K hK => ?_
  unfold Oper.wpIn
  refine ⟨by simp [Oper.about, ho, resolve, Target.leads, Sem.run_pure], ?_⟩
  rw [Oper.semAt_plain F _ _ (by rw [ho]; intro c hc'; cases hc')]
  simp [execOp, ho, resolve, invoke, builtin, hs, hx, hr, Result.andThen]
  exact hK _ _ h
/-- What may turn between two rounds. -/
abbrev Turns (B : Nat) (W : World) (row : Option Nat) : Prop := ∀ r, row = some r → B ≤ r ∧ ∃ o : Obj, W.heap[r]? = some o ∧ o.isCells = false
theorem Turns.cells {B g : Nat} {W : World} {row : Option Nat} {cs : Array Value} {t : TypeId} {f : Nat × Nat} (h : Turns B W row) (hg : W.heap[g]? = some (.cells cs t f)) : some g ≠ row := fun e => by
  obtain ⟨_, o, h1, h2⟩ := h g e.symm
  rw [hg] at h1
  cases h1
  simp [Obj.isCells] at h2
theorem own_fr {w W W' : World} {row : Option Nat} {B : Nat} (hB : w.heap.size ≤ B) (h : Fr No w W) (hg : W.grownBy W' row) (hr : Turns B W row) : Fr No w W' :=
  ⟨hg.os.trans h.os, hg.tape.trans h.tape, hg.output.trans h.output, Nat.le_trans h.size hg.size, fun k hk hn =>
    (hg.block k (Nat.lt_of_lt_of_le hk h.size) (fun e => by have := (hr k e.symm).1; omega)).trans (h.block k hk hn)⟩
theorem own_at {W W' : World} {row : Option Nat} {B g : Nat} {t : TypeId} {cs : Array Value} (h : At W g t cs) (hg : W.grownBy W' row) (hr : Turns B W row) : At W' g t cs := (hg.block g h.lt (hr.cells h)).trans h
theorem own_row {W W' : World} {S : Nat → Prop} {row : Option Nat} {B : Nat} {v : Value} {l : List UInt8} (h : Row W S v l) (hg : W.grownBy W' row) (hr : Turns B W row) : Row W' S v l := by
  obtain ⟨⟨h1, h2⟩, h3⟩ := h
  refine ⟨⟨h1, ?_⟩, h3⟩
  rcases h2 with h2 | ⟨g, cap, cur, rfl, hb, hgc, rest⟩
  · exact .inl h2
  · exact .inr ⟨g, cap, cur, rfl, hb, (hg.block g (Array.getElem?_eq_some_iff.1 hgc).1 (hr.cells hgc)).trans hgc, rest⟩
/-- The set of a value's own block. -/
abbrev Own1 (v : Value) : Nat → Prop := fun k => v.ownBlock = some k
theorem Row.own {w : World} {S : Nat → Prop} {v : Value} {l : List UInt8} (h : Row w S v l) : Row w (Own1 v) v l := ⟨h.1, fun _ hk => hk⟩
end Go.Proofs.YtihahckjcedceaaDoor

/- A row of integers of the call's own ('RowI'), as 'Row' is one of bytes. -/
namespace Go.Proofs.YtihahckjcedceaaDoor
set_option linter.unusedVariables false
open Go.RowKit

abbrev ig (x : Int) : Value := .int .i64 x
def RowI (w : World) (S : Nat → Prop) (v : Value) (l : List Int) : Prop := w.ownsRow 0 3 1 v l.length (l.map ig) ∧ ∀ k, v.ownBlock = some k → S k
theorem RowI.nil (w : World) (S : Nat → Prop) : RowI w S (.slice none 0 0) [] := ⟨World.ownsRow_nil w 0 _ 1, fun k h => by simp [Value.ownBlock] at h⟩
theorem RowI.sub {w : World} {S T : Nat → Prop} {v : Value} {l : List Int} (h : RowI w S v l) (hs : ∀ k, k < w.heap.size → S k → T k) : RowI w T v l := ⟨h.1, fun k hk => hs k (h.1.lt k hk).2 (h.2 k hk)⟩
theorem RowI.keep {w w' : World} {S T : Nat → Prop} {v : Value} {l : List Int} (h : RowI w S v l) (f : Fr T w w') (hn : ∀ k, S k → ¬ T k) : RowI w' S v l := by
  obtain ⟨⟨h1, h2⟩, h3⟩ := h
  refine ⟨⟨h1, ?_⟩, h3⟩
  rcases h2 with h2 | ⟨g, cap, cur, rfl, hb, hg, rest⟩
  · exact .inl h2
  · exact .inr ⟨g, cap, cur, rfl, hb, (f.block g (Array.getElem?_eq_some_iff.1 hg).1 (hn g (h3 g rfl))).trans hg, rest⟩
theorem RowI.form {w : World} {S : Nat → Prop} {v : Value} {l : List Int} (h : RowI w S v l) : ∃ a cap, v = .slice a l.length cap ∧ l.length ≤ cap ∧ cap ≤ maxLen ∧ (0 < l.length → ∃ b o, S b ∧ a = some ⟨b, o, none⟩ ∧ ∀ i, i < l.length → w.cell? ⟨b, o + i, none⟩ = some (.int .i64 (l.getD i 0))) := by
  obtain ⟨⟨h1, h2⟩, h3⟩ := h
  rcases h2 with ⟨rfl, h0⟩ | ⟨g, cap, cur, rfl, hb, hg, hn, hm, hc, ht⟩
  · have : l = [] := List.eq_nil_of_length_eq_zero h0
    subst this
    exact ⟨none, 0, rfl, Nat.le_refl _, by simp [maxLen], fun h => absurd h (by simp)⟩
  · refine ⟨some ⟨g, 0, none⟩, cap, rfl, hn, hm, fun hl => ⟨g, 0, h3 g rfl, rfl, fun i hi => ?_⟩⟩
    rw [Nat.zero_add, cell_of_row w g i cur _ (0, 0) hg]
    have e : cur.toList[i]? = (l.map ig)[i]? := by
      rw [← ht, List.getElem?_take, if_pos (by omega)]
    rw [← Array.getElem?_toList, e]
    simp [List.getD, hi]
theorem RowI.join {S : Nat → Prop} {a b c : World} {v : Value} {l : List Int} (h : RowI c (Gr (Gr S a b) b c) v l) (h1 : a.heap.size ≤ b.heap.size) (h2 : b.heap.size ≤ c.heap.size) : RowI c (Gr S a c) v l :=
  h.sub fun k _ hk => Gr.join h1 h2 k hk
theorem infoI64 : (Tryd.prog.info? 3).map (fun i => (i.zero, i.size, i.bytes)) = some (some (.int .i64 0), 1, 8) := by kernel_rfl
/-- APPEND OF ONE INTEGER, which lies in a new block of its own. -/
theorem RowI.push {w : World} {S : Nat → Prop} {v : Value} {l : List Int} (h : RowI w S v l) (hS : ∀ k, S k → k < w.heap.size) (x : Int) (hb : l.length < 1000000) :
    ∃ v' w', (Builtin.append_ #[85, 85] 85 #[v, .slice (some ⟨w.heap.size, 0, none⟩) 1 1]).run Tryd.prog (w.alloc (.cells #[.int .i64 x] 3)) = .ok v' w' ∧ RowI w' (Gr S w w') v' (l ++ [x]) ∧ Fr S w w' := by
  obtain ⟨i0, hi, hz0, hz1, hz2⟩ := info_parts infoI64
  have f := (Fr.refl No w).alloc (.cells #[.int .i64 x] 3)
  have h' := h.keep f fun _ _ h => h
  obtain ⟨v', w', hrun, h2, h3, _, h5⟩ := run_append_own_at (P := Tryd.prog) (w.alloc (.cells #[.int .i64 x] 3)) 0 85 85 3 i0 (.int .i64 0) 1 8 Tryd.underlying85 hi hz0 hz1 hz2 rfl (by decide) v l.length (l.map ig) h'.1
    ⟨w.heap.size, 0, none⟩ 1 1 [ig x] rfl (cell_one_new _ _ _) (by simp [Value.oneCell']) (by unfold maxLen; omega) (by omega) (Nat.zero_le _)
  have hf3 := Fr.grown h3 h'.2
  have hsz := f.size
  refine ⟨v', w', hrun, ⟨by rw [List.length_append, List.map_append]; exact h2, fun k hk => ?_⟩, (f.sub fun _ _ h => h.elim).then_ hf3 fun _ _ h => h⟩
  rcases h5 with h5 | h5
  · exact .inl (h.2 k (h5 ▸ hk))
  · rw [h5] at hk
    have hk : (w.alloc (.cells #[.int .i64 x] 3)).heap.size = k := Option.some.inj hk
    have h6 := (h2.lt k (by rw [h5, hk])).2
    exact .inr ⟨by omega, h6⟩
end Go.Proofs.YtihahckjcedceaaDoor

/- What a law on ranges over functions asks of an invariant, in the words of MemI: rows of integers. -/
namespace Go.Proofs.YtihahckjcedceaaDoor
set_option linter.unusedVariables false
open Go.RowKit

theorem own_rowI {W W' : World} {S : Nat → Prop} {row : Option Nat} {B : Nat} {v : Value} {l : List Int} (h : RowI W S v l) (hg : W.grownBy W' row) (hr : Turns B W row) : RowI W' S v l := by
  obtain ⟨⟨h1, h2⟩, h3⟩ := h
  refine ⟨⟨h1, ?_⟩, h3⟩
  rcases h2 with h2 | ⟨g, cap, cur, rfl, hb, hgc, rest⟩
  · exact .inl h2
  · exact .inr ⟨g, cap, cur, rfl, hb, (hg.block g (Array.getElem?_eq_some_iff.1 hgc).1 (hr.cells hgc)).trans hgc, rest⟩
theorem RowI.own {w : World} {S : Nat → Prop} {v : Value} {l : List Int} (h : RowI w S v l) : RowI w (Own1 v) v l := ⟨h.1, fun _ hk => hk⟩
/-- What a row's own block turns keeps whatever is no cells. -/
theorem RowI.others {W W' : World} {S : Nat → Prop} {v : Value} {l : List Int} (h : RowI W S v l) (f : Fr (Own1 v) W W') : KeepsOthers W W' := by
  refine ⟨f.size, fun k o hk ho => ?_⟩
  have hlt : k < W.heap.size := (Array.getElem?_eq_some_iff.1 hk).1
  refine (f.block k hlt fun hv => ?_).trans hk
  rcases h.1.2 with ⟨rfl, _⟩ | ⟨g, cap, cur, rfl, _, hg, _⟩
  · have hv : (none : Option Nat) = some k := hv
    cases hv
  · have hv : some g = some k := hv
    cases hv
    rw [hg] at hk
    cases hk
    simp [Obj.isCells] at ho
end Go.Proofs.YtihahckjcedceaaDoor

/- A value comes back, and nothing that was there has turned. -/
namespace Go.Proofs.YtihahckjcedceaaDoor
set_option linter.unusedVariables false

/-- A value comes back, and nothing that was there has turned. -/
def Ask (v : Value) (w : World) (e : Ending) (w' : World) : Prop := e = .returned v ∧ Fr No w w'

theorem toList_eq_iff (s t : ByteArray) : (s.toList == t.toList) = decide (s = t) := by
  rw [ByteArray.toList_eq, ByteArray.toList_eq]
  rcases s with ⟨⟨l⟩⟩
  rcases t with ⟨⟨m⟩⟩
  by_cases h : l = m
  · subst h; simp
  · simp [h]
end Go.Proofs.YtihahckjcedceaaDoor
