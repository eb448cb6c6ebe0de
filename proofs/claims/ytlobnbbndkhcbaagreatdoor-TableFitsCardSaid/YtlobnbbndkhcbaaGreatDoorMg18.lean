/-
  Texts of layer 13 and of what it stands on, one behind the other.
-/
import Derived.Test.YtlobnbbndkhcbaaGreatDoorMg04
import Derived.Test.YtlobnbbndkhcbaaGreatDoorMg10
import Derived.Test.YtlobnbbndkhcbaaGreatDoorMg09
import Derived.Test.YtlobnbbndkhcbaaGreatDoorMg05
import Derived.Deep.RegionHeld3
import Derived.Deep.QuietTactic
import Derived.BigQuiet
import Derived.Laws.MakeOwn
import Derived.Test.YtlobnbbndkhcbaaGreatDoorMg14
import Derived.Test.YtlobnbbndkhcbaaGreatDoorMg11
import Derived.Test.YtlobnbbndkhcbaaGreatDoorMg12

/- Plain mathematics of layer 9: a record's frame, what frames bytes begin with. No program is named. -/
namespace Go.Proofs.YtlobnbbndkhcbaaGreatDoor
set_option linter.unusedVariables false

/-- The mask of the sum of some bytes. -/
def sumW (l : List UInt8) : Int := mk ((Crc.of l).toNat : Int)
def wordL (c : Int) : List UInt8 := [byteOf (c / 16777216), byteOf (c / 65536 % 256), byteOf (c / 256 % 256), byteOf (c % 256)]
theorem wordL_length (c : Int) : (wordL c).length = 4 := rfl
theorem sumW_range (l : List UInt8) : 0 ≤ sumW l ∧ sumW l < 4294967296 := by unfold sumW mk; omega
def bodyL (b : List UInt8) : List UInt8 := enc b.length ++ b
def frameL (b : List UInt8) : List UInt8 := wordL (sumW (bodyL b)) ++ bodyL b
def sizeL (n : Nat) : Nat := 4 + (enc n).length + n
theorem frameL_length (b : List UInt8) : (frameL b).length = sizeL b.length := by
  unfold frameL bodyL sizeL
  rw [List.length_append, List.length_append, wordL_length]
  omega
theorem sizeL_pos (n : Nat) : 5 + n ≤ sizeL n := by
  have := enc_pos n
  unfold sizeL
  omega
theorem sizeL_le {n : Nat} (h : n < 9223372036854775808) : sizeL n ≤ 13 + n := by
  have := enc_len9 h
  unfold sizeL
  omega
theorem enc_len_mono' : ∀ (n m : Nat), n ≤ m → (enc n).length ≤ (enc m).length := by
  intro n
  induction n using Nat.strongRecOn with
  | _ n ih =>
    intro m h
    by_cases h1 : n < 128
    · rw [enc_len_small h1]
      exact enc_pos m
    · rw [enc_len_big (by omega), enc_len_big (show 128 ≤ m by omega)]
      have := ih (n / 128) (by omega) (m / 128) (by omega)
      omega
theorem enc_len_mono {n m : Nat} (h : n ≤ m) : (enc n).length ≤ (enc m).length := enc_len_mono' n m h
theorem sizeL_inj {n m : Nat} (h : sizeL n = sizeL m) : n = m := by
  rcases Nat.lt_trichotomy n m with h1 | h1 | h1
  · have := enc_len_mono (Nat.le_of_lt h1)
    unfold sizeL at h
    omega
  · exact h1
  · have := enc_len_mono (Nat.le_of_lt h1)
    unfold sizeL at h
    omega
theorem sizeL_mono {n m : Nat} (h : n ≤ m) : sizeL n ≤ sizeL m := by
  have := enc_len_mono h
  unfold sizeL
  omega
/-- What is read as a number has just that number's bytes. -/
theorem dec_take : ∀ (f i : Nat) (l : List UInt8) (n k : Nat), dec f i l = some (n, k) → (0 < i → 0 < n) ∧ l.take k = enc n := by
  intro f
  induction f with
  | zero => intro _ _ _ _ h; simp [dec] at h
  | succ f ih =>
    intro i l n k h
    cases l with
    | nil => simp [dec_nil] at h
    | cons c r =>
      rw [dec_cons] at h
      split at h
      · split at h
        · cases h
        · rename_i h1 h2
          simp only [Option.some.injEq, Prod.mk.injEq] at h
          obtain ⟨rfl, rfl⟩ := h
          refine ⟨fun hi => by omega, ?_⟩
          rw [enc_small h1]
          simp
      · rename_i h1
        cases hd : dec f (i + 1) r with
        | none => rw [hd] at h; cases h
        | some p =>
          rw [hd] at h
          simp only [Option.map_some, Option.some.injEq, Prod.mk.injEq] at h
          obtain ⟨rfl, rfl⟩ := h
          obtain ⟨a1, a2⟩ := ih (i + 1) r p.1 p.2 hd
          have a1 := a1 (by omega)
          have hc := c.toNat_lt
          refine ⟨fun _ => by omega, ?_⟩
          rw [enc_big (by omega), List.take_succ_cons, a2, show (c.toNat - 128 + 128 * p.1) / 128 = p.1 by omega, show (c.toNat - 128 + 128 * p.1) % 128 + 128 = c.toNat by omega]
          simp

/-- ONE FRAME AT THE HEAD: its record, and how many bytes it has. -/
def headF (l : List UInt8) : Option (List UInt8 × Nat) :=
  match dec 9 0 (l.drop 4) with
  | none => none
  | some (n, k) => if n ≤ l.length - (4 + k) ∧ l.take 4 = wordL (sumW ((l.drop 4).take (k + n))) then some ((l.drop (4 + k)).take n, 4 + k + n) else none
theorem headF_none {l : List UInt8} (h : dec 9 0 (l.drop 4) = none) : headF l = none := by
  unfold headF
  rw [h]
theorem headF_some {l : List UInt8} {n k : Nat} (h : dec 9 0 (l.drop 4) = some (n, k)) :
    headF l = if n ≤ l.length - (4 + k) ∧ l.take 4 = wordL (sumW ((l.drop 4).take (k + n))) then some ((l.drop (4 + k)).take n, 4 + k + n) else none := by
  unfold headF
  rw [h]
theorem headF_short {l : List UInt8} (h : l.length < 5) : headF l = none := by
  refine headF_none ?_
  cases hd : dec 9 0 (l.drop 4) with
  | none => rfl
  | some p =>
    obtain ⟨n, k⟩ := p
    have := dec_lt9 _ _ _ hd
    rw [List.length_drop] at this
    omega
/-- The parts of bytes that begin with a number. -/
theorem body_parts {l : List UInt8} {n k : Nat} (h : dec 9 0 (l.drop 4) = some (n, k)) (hn : n ≤ l.length - (4 + k)) :
    4 + k + n ≤ l.length ∧ ((l.drop (4 + k)).take n).length = n ∧ (l.drop 4).take (k + n) = bodyL ((l.drop (4 + k)).take n) ∧ (l.drop 4).take k = enc n := by
  obtain ⟨a1, a2, a3, a4⟩ := dec_lt9 _ _ _ h
  rw [List.length_drop] at a2
  have h1 : ((l.drop (4 + k)).take n).length = n := by rw [List.length_take, List.length_drop]; omega
  have h2 := (dec_take _ _ _ _ _ h).2
  refine ⟨by omega, h1, ?_, h2⟩
  unfold bodyL
  rw [h1, ← h2, List.take_add, List.drop_drop]
theorem headF_is {l x : List UInt8} {t : Nat} (h : headF l = some (x, t)) : t = (frameL x).length ∧ l.take t = frameL x ∧ t ≤ l.length := by
  cases hd : dec 9 0 (l.drop 4) with
  | none => rw [headF_none hd] at h; cases h
  | some p =>
    obtain ⟨n, k⟩ := p
    rw [headF_some hd] at h
    split at h
    · rename_i hc
      obtain ⟨c1, c2⟩ := hc
      simp only [Option.some.injEq, Prod.mk.injEq] at h
      obtain ⟨rfl, rfl⟩ := h
      obtain ⟨b1, b2, b3, b4⟩ := body_parts hd c1
      have hk : (enc n).length = k := by
        rw [← b4, List.length_take, List.length_drop]
        have := dec_lt9 _ _ _ hd
        rw [List.length_drop] at this
        omega
      have e1 : (frameL ((l.drop (4 + k)).take n)).length = 4 + k + n := by
        rw [frameL_length, b2]
        unfold sizeL
        omega
      refine ⟨e1.symm, ?_, b1⟩
      unfold frameL
      rw [← b3, ← c2, show 4 + k + n = 4 + (k + n) by omega, List.take_add]
    · cases h
theorem headF_frame (x r : List UInt8) (h : x.length < 9223372036854775808) : headF (frameL x ++ r) = some (x, (frameL x).length) := by
  have e0 : (frameL x ++ r).drop 4 = enc x.length ++ (x ++ r) := by
    unfold frameL bodyL
    rw [List.append_assoc, List.append_assoc]
    exact List.drop_left' (wordL_length _)
  have hd : dec 9 0 ((frameL x ++ r).drop 4) = some (x.length, (enc x.length).length) := by rw [e0]; exact dec_enc9 _ _ h
  have hl : (frameL x ++ r).length = sizeL x.length + r.length := by rw [List.length_append, frameL_length]
  have e1 : ((frameL x ++ r).drop 4).take ((enc x.length).length + x.length) = bodyL x := by
    rw [e0, ← List.append_assoc]
    exact List.take_left' (by rw [List.length_append])
  have e2 : (frameL x ++ r).take 4 = wordL (sumW (bodyL x)) := by
    unfold frameL
    rw [List.append_assoc]
    exact List.take_left' (wordL_length _)
  have e3 : (frameL x ++ r).drop (4 + (enc x.length).length) = x ++ r := by
    rw [← List.drop_drop, e0]
    exact List.drop_left' rfl
  rw [headF_some hd, if_pos ⟨by rw [hl]; unfold sizeL; omega, by rw [e1, e2]⟩, e3, List.take_left' rfl, frameL_length]
  rfl
theorem headF_cut (x : List UInt8) (h : x.length < 9223372036854775808) (k : Nat) (hk : k < (frameL x).length) : headF ((frameL x).take k) = none := by
  cases hh : headF ((frameL x).take k) with
  | none => rfl
  | some p =>
    obtain ⟨y, t⟩ := p
    obtain ⟨h1, h2, h3⟩ := headF_is hh
    rw [List.length_take] at h3
    have e : frameL x = frameL y ++ (frameL x).drop t := by
      rw [List.take_take, Nat.min_eq_left (by omega)] at h2
      rw [← h2, List.take_append_drop]
    have hy : y.length < 9223372036854775808 := by
      have h4 := frameL_length y
      have h5 := frameL_length x
      have h6 := sizeL_pos y.length
      have h7 := sizeL_le h
      rcases Nat.lt_or_ge y.length 9223372036854775808 with h8 | h8
      · exact h8
      · have h9 := sizeL_mono (Nat.le_trans (Nat.le_of_lt h) h8)
        omega
    have a := headF_frame y ((frameL x).drop t) hy
    rw [← e] at a
    have b := headF_frame x [] h
    rw [List.append_nil] at b
    rw [a] at b
    have := (Prod.mk.inj (Option.some.inj b)).2
    omega
/-- Frames, one behind the other. -/
def framesL : List (List UInt8) → List UInt8
  | [] => []
  | x :: xs => frameL x ++ framesL xs
theorem framesL_append : ∀ (xs ys : List (List UInt8)), framesL (xs ++ ys) = framesL xs ++ framesL ys
  | [], _ => rfl
  | x :: xs, ys => by
    show frameL x ++ framesL (xs ++ ys) = (frameL x ++ framesL xs) ++ framesL ys
    rw [framesL_append xs ys, List.append_assoc]
theorem framesL_snoc (xs : List (List UInt8)) (x : List UInt8) : framesL (xs ++ [x]) = framesL xs ++ frameL x := by
  rw [framesL_append]
  congr 1
  exact List.append_nil _
/-- THE RECORDS of bytes. -/
def Scn (l : List UInt8) (xs : List (List UInt8)) : Prop := ∃ r, l = framesL xs ++ r ∧ headF r = none
theorem Scn.le {l : List UInt8} {xs : List (List UInt8)} (h : Scn l xs) : (framesL xs).length ≤ l.length := by
  obtain ⟨r, rfl, _⟩ := h
  rw [List.length_append]
  omega
theorem Scn.take {l : List UInt8} {xs : List (List UInt8)} (h : Scn l xs) : l.take (framesL xs).length = framesL xs := by
  obtain ⟨r, rfl, _⟩ := h
  exact List.take_left' rfl
theorem framesL_le : ∀ {xs : List (List UInt8)} {x : List UInt8}, x ∈ xs → 5 + x.length ≤ (framesL xs).length
  | [], _, h => by cases h
  | y :: ys, x, h => by
    unfold framesL
    rw [List.length_append]
    rcases List.mem_cons.1 h with rfl | h
    · rw [frameL_length]
      have := sizeL_pos x.length
      omega
    · have := framesL_le h
      omega
theorem framesL_count : ∀ (xs : List (List UInt8)), xs.length * 5 ≤ (framesL xs).length
  | [] => by simp [framesL]
  | y :: ys => by
    unfold framesL
    have := framesL_count ys
    rw [List.length_append, List.length_cons, frameL_length]
    have := sizeL_pos y.length
    omega
theorem Scn.uniq : ∀ {xs ys : List (List UInt8)} {l : List UInt8}, l.length < 9223372036854775808 → Scn l xs → Scn l ys → xs = ys
  | [], [], _, _, _, _ => rfl
  | [], y :: ys, l, hl, ⟨r, e1, h1⟩, ⟨s, e2, h2⟩ => by
    exfalso
    rw [e2] at e1
    have hy : y.length < 9223372036854775808 := by
      have := framesL_le (xs := y :: ys) (List.mem_cons_self ..)
      have : (framesL (y :: ys)).length ≤ l.length := by rw [e2, List.length_append]; omega
      omega
    have e3 : r = frameL y ++ (framesL ys ++ s) := by
      rw [← List.append_assoc]
      exact e1.symm
    rw [e3, headF_frame y _ hy] at h1
    cases h1
  | x :: xs, [], l, hl, ⟨r, e1, h1⟩, ⟨s, e2, h2⟩ => by
    exfalso
    rw [e1] at e2
    have hx : x.length < 9223372036854775808 := by
      have := framesL_le (xs := x :: xs) (List.mem_cons_self ..)
      have : (framesL (x :: xs)).length ≤ l.length := by rw [e1, List.length_append]; omega
      omega
    have e3 : s = frameL x ++ (framesL xs ++ r) := by
      rw [← List.append_assoc]
      exact e2.symm
    rw [e3, headF_frame x _ hx] at h2
    cases h2
  | x :: xs, y :: ys, l, hl, ⟨r, e1, h1⟩, ⟨s, e2, h2⟩ => by
    have hx : x.length < 9223372036854775808 := by
      have := framesL_le (xs := x :: xs) (List.mem_cons_self ..)
      have : (framesL (x :: xs)).length ≤ l.length := by rw [e1, List.length_append]; omega
      omega
    have hy : y.length < 9223372036854775808 := by
      have := framesL_le (xs := y :: ys) (List.mem_cons_self ..)
      have : (framesL (y :: ys)).length ≤ l.length := by rw [e2, List.length_append]; omega
      omega
    have f1 : l = frameL x ++ (framesL xs ++ r) := by rw [← List.append_assoc]; exact e1
    have f2 : l = frameL y ++ (framesL ys ++ s) := by rw [← List.append_assoc]; exact e2
    have a := headF_frame x (framesL xs ++ r) hx
    have b := headF_frame y (framesL ys ++ s) hy
    rw [← f1] at a
    rw [← f2, a] at b
    obtain rfl := (Prod.mk.inj (Option.some.inj b)).1
    have f3 : framesL xs ++ r = framesL ys ++ s := by
      rw [f1] at f2
      exact List.append_cancel_left f2
    have hl2 : (framesL xs ++ r).length < 9223372036854775808 := by
      have := congrArg List.length f1
      rw [List.length_append] at this
      omega
    rw [Scn.uniq hl2 ⟨r, rfl, h1⟩ ⟨s, f3, h2⟩]
/-- They are there. -/
theorem scn_ex : ∀ (k : Nat) (l : List UInt8), l.length ≤ k → ∃ xs, Scn l xs
  | 0, l, h => ⟨[], l, rfl, headF_short (by omega)⟩
  | k + 1, l, h => by
    cases hh : headF l with
    | none => exact ⟨[], l, rfl, hh⟩
    | some p =>
      obtain ⟨x, t⟩ := p
      obtain ⟨h1, h2, h3⟩ := headF_is hh
      have h4 := frameL_length x
      have h5 := sizeL_pos x.length
      obtain ⟨xs, r, e, hr⟩ := scn_ex k (l.drop t) (by rw [List.length_drop]; omega)
      refine ⟨x :: xs, r, ?_, hr⟩
      unfold framesL
      rw [List.append_assoc, ← e, ← h2, List.take_append_drop]
noncomputable def scanL (l : List UInt8) : List (List UInt8) := Classical.choose (scn_ex l.length l (Nat.le_refl _))
theorem scanL_is (l : List UInt8) : Scn l (scanL l) := Classical.choose_spec (scn_ex l.length l (Nat.le_refl _))
theorem scanL_eq {l : List UInt8} {xs : List (List UInt8)} (hl : l.length < 9223372036854775808) (h : Scn l xs) : scanL l = xs := Scn.uniq hl (scanL_is l) h
/-! ### Rounds. -/
theorem scn_step {l : List UInt8} {pre : List (List UInt8)} {x : List UInt8} {t at_ : Nat} (h : l.take at_ = framesL pre) (hat : at_ ≤ l.length) (hh : headF (l.drop at_) = some (x, t)) : l.take (at_ + t) = framesL (pre ++ [x]) ∧ at_ + t ≤ l.length ∧ t = (frameL x).length := by
  obtain ⟨h1, h2, h3⟩ := headF_is hh
  rw [List.length_drop] at h3
  refine ⟨?_, by omega, h1⟩
  rw [List.take_add, h, h2, framesL_snoc]
theorem scn_end {l : List UInt8} {pre : List (List UInt8)} {at_ : Nat} (h : l.take at_ = framesL pre) (hh : headF (l.drop at_) = none) : Scn l pre := ⟨l.drop at_, by rw [← h, List.take_append_drop], hh⟩
end Go.Proofs.YtlobnbbndkhcbaaGreatDoor

/- Contracts of the document's answer for layer 4: Places. -/
namespace Go.Proofs.YtlobnbbndkhcbaaGreatDoor
set_option linter.unusedVariables false
open Go.RowKit

theorem mk_nat (n : Nat) : mk (n : Int) = (mkN n : Int) := by
  unfold mk mkN
  omega
/-- A row of integers of the call's own comes back, and nothing that was there has turned. -/
def NewRowI (l : List Int) (w : World) (e : Ending) (w' : World) : Prop := ∃ v, e = .returned v ∧ RowI w' (Gr No w w') v l ∧ Fr No w w'
def placesI (l : List UInt8) (m n : Nat) : List Int := (places l m n).map fun (x : Nat) => (x : Int)
theorem placesI_succ (l : List UInt8) (m n : Nat) : placesI l m (n + 1) = placesI l m n ++ [(((pA l + n * pD l) % m : Nat) : Int)] := by
  unfold placesI
  rw [places_succ, List.map_append]
  rfl
theorem placesI_length (l : List UInt8) (m n : Nat) : (placesI l m n).length = n := by simp [placesI, places_length]
theorem grI_lt {w wr : World} : ∀ k, Gr No w wr k → k < wr.heap.size := fun k hk => by
  rcases hk with hk | hk
  · exact hk.elim
  · exact hk.2
set_option maxRecDepth 20000 in
set_option maxHeartbeats 1000000 in
theorem refPlaces_c (a : Option Addr) (len cap : Nat) (l : List UInt8) (m n : Nat) (w : World) (hl : l.length = len) (hlm : len ≤ 1000000) (hr : Rd w a l) (hm : 0 < m) (hm2 : m ≤ 1000000000) (hn : n ≤ 64) :
    Calls Tryz.prog 76 #[.slice a len cap, .int .i64 (m : Int), .int .i64 (n : Int)] w (NewRowI (placesI l m n) w) := by
  have C1 := Lib.hid (refof_c a len cap l w hl (by omega) hr)
  have hA := pA_lt l
  have C2 := fun w => refmask_c ((pA l : Nat) : Int) w (by omega) (by omega)
  rw [mk_nat] at C2
  have hD := pD_lt l
  have hM : mkN (pA l) < 4294967296 := by unfold mkN; omega
  have hpd : (mkN (pA l) % 2 = 0 ∧ pD l = mkN (pA l) + 1) ∨ (¬ mkN (pA l) % 2 = 0 ∧ pD l = mkN (pA l)) := by
    unfold pD
    by_cases h : mkN (pA l) % 2 = 0
    · exact .inl ⟨h, if_pos h⟩
    · exact .inr ⟨h, if_neg h⟩
  have HS := Lib.hid (placesI_succ l m)
  have HL := Lib.hid (placesI_length l m)
  have HP := Lib.hid (show ∀ i, i ≤ 64 → i * pD l ≤ 64 * 4294967297 from fun i hi => Nat.mul_le_mul hi (Nat.le_of_lt hD))
  have C1 : Hid (Calls _ _ _ _ fun e w' => e = .returned (.int .u32 ((pA l : Nat) : Int)) ∧ w = w') := C1
  generalize pA l = A at *
  generalize pD l = D at *
  generalize mkN A = M at *
  have C2 := Lib.hid C2
  clear hl hr
  have hpd' : (((M : Int) % 2 == 0) = true ∧ (M : Int) + 1 = (D : Int)) ∨ (((M : Int) % 2 == 0) = false ∧ D = M) := by
    rcases hpd with ⟨h, e⟩ | ⟨h, e⟩
    · exact .inl ⟨by rw [beq_iff_eq]; omega, by omega⟩
    · exact .inr ⟨by rw [beq_eq_false_iff_ne]; omega, e⟩
  clear hpd
  rcases hpd' with ⟨h2, eD⟩ | ⟨h2, rfl⟩
  all_goals
    go_enter Tryz.func76, Tryz.ntmps76
    go_wp2_with fail
    refine (show Calls _ _ _ _ _ from C1.out).mono ?_
    rintro e w1 ⟨rfl, rfl⟩
    go_wp2_with fail
    refine (C2.out _).mono ?_
    rintro e w1 ⟨rfl, rfl⟩
    go_wp2_with fail
    try rw [eD]
    try clear eD
    clear h2 hM
    go_loopw [10, 11] (fun v i wr => ∃ k : Nat, i = .int .i64 k ∧ k ≤ n ∧ RowI wr (Gr No w wr) v (placesI l m k) ∧ Fr No w wr) (fun _ i _ => n - (intOf i).toNat)
    case atStart => exact ⟨0, rfl, Nat.zero_le _, RowI.nil _ _, Fr.refl _ _⟩
    case round =>
      obtain ⟨k, rfl, hk, hrow, hfr⟩ := hrel
      by_cases h1 : k < n
      · obtain ⟨v1, w1, hrun, hrow1, hfr1⟩ := hrow.push grI_lt ((((A + k * D) % m : Nat)) : Int) (by rw [HL.out]; omega)
        have hrow1 := hrow1.join hfr.size hfr1.size
        rw [← HS.out] at hrow1
        have hp := HP.out k (by omega)
        have e1 : (k : Int) * (D : Int) = ((k * D : Nat) : Int) := (Int.natCast_mul k D).symm
        generalize k * D = p at hp e1 hrun
        rw [show (((A + p) % m : Nat) : Int) = ((A : Int) + (p : Int)) % (m : Int) by simp] at hrun
        have hlt : ((A : Int) + (p : Int)) % (m : Int) < m := Int.emod_lt_of_pos _ (by omega)
        have hge : 0 ≤ ((A : Int) + (p : Int)) % (m : Int) := Int.emod_nonneg _ (by omega)
        have HR := Lib.hid hrun
        have HW := Lib.hid hrow1
        have HF := Lib.hid (hfr.then_ hfr1 fun k hk h => Gr.old hk h)
        clear hrun hrow hrow1 hfr hfr1
        go_wp2_with (at_builtin; refine wpList_append_run rfl _ _ 43 rfl rfl rfl HR.out ?_)
        go_roundw
        case rel => exact ⟨k + 1, by simp, by omega, HW.out, HF.out⟩
        case measure => simp [intOf]; omega
      · have hkn : k = n := by omega
        subst hkn
        have HW := Lib.hid hrow
        have HF := Lib.hid hfr
        clear hrow hfr
        go_wp2_with fail
        go_ret
        exact ⟨_, rfl, HW.out, HF.out⟩
end Go.Proofs.YtlobnbbndkhcbaaGreatDoor

/- Contracts of the document's filter of layer 4: Has, Add. -/
namespace Go.Proofs.YtlobnbbndkhcbaaGreatDoor
set_option linter.unusedVariables false
open Go.RowKit

def boolsV (on : List Bool) : Array Value := (on.map Value.bool).toArray
/-- THE DOCUMENT's FILTER: its block, that of its bits. -/
structure RFil (w : World) (b g : Nat) (on : List Bool) (p : Nat) : Prop where
  ob : At w b 130 #[.slice (some ⟨g, 0, none⟩) on.length on.length, .int .i64 (p : Int)]
  on : At w g 4 (boolsV on)
  ne : b ≠ g
theorem RFil.keep {w w' : World} {b g : Nat} {on : List Bool} {p : Nat} {T : Nat → Prop} (h : RFil w b g on p) (f : Fr T w w') (h1 : ¬ T b) (h2 : ¬ T g) : RFil w' b g on p := ⟨h.ob.keep f h1, h.on.keep f h2, h.ne⟩
theorem boolsV_at (on : List Bool) (i : Nat) (h : i < on.length) : (boolsV on)[i]? = some (.bool (on.getD i false)) := by
  simp [boolsV, List.getD, h]
theorem boolsV_set (on : List Bool) (i : Nat) (c : Bool) : (boolsV on).setIfInBounds i (.bool c) = boolsV (on.set i c) := by
  apply Array.ext'
  simp [boolsV, List.map_set]
def setAll (on : List Bool) (ps : List Nat) : List Bool := ps.foldl (fun o i => o.set i true) on
theorem setAll_length (ps : List Nat) : ∀ on : List Bool, (setAll on ps).length = on.length := by
  induction ps with
  | nil => intro on; rfl
  | cons i ps ih => intro on; exact (ih (on.set i true)).trans (by simp)
theorem setAll_snoc (on : List Bool) (ps : List Nat) (i : Nat) : setAll on (ps ++ [i]) = (setAll on ps).set i true := by simp [setAll]
def hasAll (on : List Bool) (ps : List Nat) : Bool := ps.all fun i => on.getD i false

theorem placesI_get (l : List UInt8) (m n i : Nat) (h : i < n) : (placesI l m n).getD i 0 = (((pA l + i * pD l) % m : Nat) : Int) := by
  unfold placesI
  simp only [List.getD_eq_getElem?_getD, List.getElem?_map, places_get l m n i h]
  rfl
theorem RFil.bit {w : World} {b g : Nat} {on : List Bool} {p : Nat} (h : RFil w b g on p) {i : Nat} (hi : i < on.length) : RFil (w.setCell ⟨g, i, none⟩ (.bool true)) b g (on.set i true) p :=
  ⟨by
    have := h.ob.keep ((Fr.refl (One g) w).setCell (p := ⟨g, i, none⟩) (fun _ => rfl) (.bool true)) (fun e => h.ne e)
    rwa [List.length_set], by
    have := h.on.set_ i (.bool true)
    rwa [boolsV_set] at this, h.ne⟩
set_option maxRecDepth 20000 in
set_option maxHeartbeats 1000000 in
theorem refAdd_c (b g : Nat) (on : List Bool) (p : Nat) (a : Option Addr) (len cap : Nat) (l : List UInt8) (w : World) (hf : RFil w b g on p) (hl : l.length = len) (hlm : len ≤ 1000000) (hr : Rd w a l) (h0 : 0 < on.length) (h1 : on.length ≤ 1000000000) (hp : p ≤ 64) :
    Calls Tryz.prog 44 #[.pointer (some ⟨b, 0, none⟩), .slice a len cap] w fun e w' => e = .returned (.tuple #[]) ∧ RFil w' b g (setAll on (places l on.length p)) p ∧ Fr (One g) w w' := by
  have CP := Lib.hid (fun w (hr : Rd w a l) => refPlaces_c a len cap l on.length p w hl hlm hr h0 h1 hp)
  have HR := Lib.hid (show Rd w.drew a l from hr)
  have HF := Lib.hid hf
  clear hr hl
  have HPL := Lib.hid (placesI_length l on.length p)
  have HPG := Lib.hid (placesI_get l on.length p)
  have HLT := Lib.hid (fun i => Nat.mod_lt (pA l + i * pD l) h0)
  have HPS := Lib.hid (places_succ l on.length)
  obtain ⟨N, hN⟩ : ∃ N, on.length = N := ⟨_, rfl⟩
  have hob := hf.ob
  rw [hN] at hob h0 h1
  have c0 := hob.cell 0
  have c1 := hob.cell 1
  simp at c0 c1
  have HN := Lib.hid hN
  have HGB := Lib.hid (show g < w.heap.size from hf.on.lt)
  clear hf hob
  go_enter Tryz.func44, Tryz.ntmps44
  go_wp2_with fail
  go_region_held3 (fun w' => w'.cell? ⟨b, 0, none⟩ = some (.slice (some ⟨g, 0, none⟩) N N) ∧ w'.cell? ⟨b, 1, none⟩ = some (.int .i64 (p : Int))) (first | assumption | go_keep)
    (first
      | (go_at_call 76; rw [← HN.out]; refine (CP.out _ HR.out).mono ?_; intro e w2 hret; obtain ⟨v, rfl, hrow, hf⟩ := hret; obtain ⟨sa, sc, rfl, _, _, hcells⟩ := hrow.form
         rw [HPL.out]
         have c0 := hf.cell (p := ⟨b, 0, none⟩) (v := .slice (some ⟨g, 0, none⟩) N N) c0 (fun h => h)
         have c1 := hf.cell (p := ⟨b, 1, none⟩) (v := .int .i64 (p : Int)) c1 (fun h => h)
         rw [HPL.out] at hcells
         have HC := Lib.hid hcells
         have HF2 := Lib.hid hf
         clear hrow hf hcells))
  go_wp2_with fail
  rename World => w2
  have HFw := Lib.hid ((Fr.refl No w).drew.trans HF2.out)
  have HFil := Lib.hid (HF.out.keep HFw.out (fun h => h) (fun h => h))
  go_loopw [5] (fun i wr => ∃ k : Nat, i = .int .i64 k ∧ k ≤ p ∧ Fr (One g) w2 wr ∧ RFil wr b g (setAll on (places l on.length k)) p) (fun i _ => p - (intOf i).toNat)
  case atStart => exact ⟨0, rfl, Nat.zero_le _, Fr.refl _ _, HFil.out⟩
  case round =>
    obtain ⟨k, rfl, hk, hfr, fil⟩ := hrel
    have hlk : (setAll on (places l on.length k)).length = on.length := setAll_length _ _
    by_cases h1 : k < p
    · obtain ⟨sb, so, hS, rfl, hc⟩ := HC.out (by omega)
      have hsg : ¬ sb = g := fun h3 => by
        have h2 := HGB.out
        rcases hS with hS | hS
        · exact hS
        · have h4 : w.drew.heap.size = w.heap.size := rfl
          omega
      have hbg : ¬ b = g := fil.ne
      have ck := hfr.cell (hc k h1) (fun h => hsg h)
      rw [HPG.out k h1] at ck
      have hlt := HLT.out k
      have hob := fil.ob
      rw [hlk, HN.out] at hob
      have d0 := hob.cell 0
      simp at d0
      have hbit := fil.on.cell ((pA l + k * pD l) % on.length)
      rw [boolsV_at _ _ (by rw [hlk]; exact hlt)] at hbit
      have hfz := fil.on.frozen ((pA l + k * pD l) % on.length)
      have hnew := fil.bit (i := (pA l + k * pD l) % on.length) (by rw [hlk]; exact hlt)
      rw [← setAll_snoc, ← HPS.out] at hnew
      have hfrn := hfr.setCell (p := ⟨g, (pA l + k * pD l) % on.length, none⟩) (fun _ => rfl) (.bool true)
      rw [HN.out] at hlt
      generalize (setAll on (places l on.length k)).getD ((pA l + k * pD l) % on.length) false = bb at hbit
      obtain ⟨q, hq⟩ : ∃ q, (pA l + k * pD l) % on.length = q := ⟨_, rfl⟩
      rw [hq] at ck hbit hfz hnew hfrn
      rw [HN.out] at hq
      rw [hq] at hlt
      have fst := (Fr.refl (One g) wr).setCell (p := ⟨g, q, none⟩) (fun _ => rfl) (.bool true)
      have HS1 := Lib.hid (fst.cell (p := ⟨b, 0, none⟩) d0 (fun h => hbg h))
      have HS2 := Lib.hid (fst.cell (p := ⟨sb, so + k, none⟩) ck (fun h => hsg h))
      clear fst
      have HNEW := Lib.hid hnew
      have HFr := Lib.hid hfrn
      clear hq fil hob hc hfr hnew hfrn hlk
      go_wp2_with fail
      go_region_held3 (fun w' => w'.cell? ⟨b, 0, none⟩ = some (.slice (some ⟨g, 0, none⟩) N N) ∧ w'.cell? ⟨sb, so + k, none⟩ = some (.int .i64 (q : Int))) (first | assumption | exact And.intro HS1.out HS2.out | go_keep) (fail)
      go_wp2_with fail
      go_roundw
      case rel => exact ⟨k + 1, by simp, by omega, HFr.out.drew, HNEW.out.keep ((Fr.refl No _).drew) (fun h => h) (fun h => h)⟩
      case measure => simp [intOf]; omega
    · have hkp : k = p := by omega
      subst hkp
      have HFr := Lib.hid hfr
      have HFi := Lib.hid fil
      clear hfr fil
      go_wp2_with fail
      go_end0
      exact ⟨rfl, HFi.out, (HFw.out.sub (fun _ _ h => h.elim)).trans HFr.out⟩
end Go.Proofs.YtlobnbbndkhcbaaGreatDoor

/- The contract of the document's New (layer 4). -/
namespace Go.Proofs.YtlobnbbndkhcbaaGreatDoor
set_option linter.unusedVariables false
open Go.RowKit

def sizeF (k e : Nat) : Nat := (max (k * e) 64 + 7) / 8 * 8
def probF (e : Nat) : Nat := max (e * 7 / 10) 1
theorem infoBool : (Tryz.prog.info? 4).map (fun i => (i.zero, i.size, i.bytes)) = some (some (.bool false), 1, 1) := by kernel_rfl
theorem make_bools (w : World) (n : Nat) (h : n ≤ 140737488355328) :
    (Instr.makeSlice 128 (.int .i64 (n : Int)) (.int .i64 (n : Int))).run Tryz.prog w = .ok (.slice (some ⟨w.heap.size, 0, none⟩) n n) (w.alloc (.cells (madeCells #[.bool false] n) 4)) := by
  obtain ⟨i0, hi, hz0, hz1, hz2⟩ := info_parts infoBool
  have hr := run_make (P := Tryz.prog) w 128 4 i0 (.bool false) Tryz.underlying128 hi hz0 .i64 .i64 n n (by omega) (by omega) (by rw [hz2]; omega) (by omega)
  rw [hz1] at hr
  simp only [Int.toNat_natCast, Nat.mul_one] at hr
  exact hr
theorem madeBools (n : Nat) : madeCells #[.bool false] n = boolsV (List.replicate n false) := by
  apply Array.ext
  · simp [size_madeCells, boolsV]
  · intro i h1 h2
    have h3 : i < n := by simpa [size_madeCells] using h1
    simp [madeCells, boolsV, Nat.mod_one]
set_option maxRecDepth 20000 in
set_option maxHeartbeats 1000000 in
theorem refNew_c (k e : Nat) (hk : k ≤ 65536) (he1 : 1 ≤ e) (he : e ≤ 32) (w : World) :
    Calls Tryz.prog 42 #[.int .i64 (k : Int), .int .i64 (e : Int)] w fun x w' =>
      ∃ b g, x = .returned (.pointer (some ⟨b, 0, none⟩)) ∧ RFil w' b g (List.replicate (sizeF k e) false) (probF e) ∧ Fr No w w' ∧ w.heap.size ≤ b ∧ w.heap.size ≤ g := by
  obtain ⟨t, ht⟩ : ∃ t, k * e = t := ⟨_, rfl⟩
  have e1 : (k : Int) * (e : Int) = (t : Int) := by rw [← ht]; exact (Int.natCast_mul k e).symm
  have ht2 : t ≤ 65536 * 32 := by rw [← ht]; exact Nat.mul_le_mul hk he
  obtain ⟨T, hT⟩ : ∃ T, sizeF k e = T := ⟨_, rfl⟩
  have hT2 : T = (max t 64 + 7) / 8 * 8 := by rw [← hT, ← ht]; rfl
  obtain ⟨s0, hs0⟩ : ∃ s0, max t 64 = s0 := ⟨_, rfl⟩
  rw [hs0] at hT2
  rw [hT]
  have hs : s0 ≤ 65536 * 32 := by omega
  have HP := Lib.hid (show probF e = max (e * 7 / 10) 1 from rfl)
  generalize probF e = P at *
  have hway : (t < 64 ∧ s0 = 64) ∨ (¬ t < 64 ∧ s0 = t) := by omega
  have hpw : ((e : Int) * 7 / 10 < 1 ∧ P = 1) ∨ (¬ (e : Int) * 7 / 10 < 1 ∧ ((e : Int) * 7 / 10) = (P : Int)) := by
    have := HP.out
    omega
  clear ht hT hs0 hk
  have hmk := fun w => make_bools w T (by omega)
  rw [madeBools] at hmk
  have loop : True := trivial
  rcases hway with ⟨h1, rfl⟩ | ⟨h1, rfl⟩
  all_goals
    go_enter Tryz.func42, Tryz.ntmps42
    go_wp2_with fail
    clear h1 e1
    go_loopw [5] (fun n wr => ∃ s : Nat, n = .int .i64 s ∧ s ≤ T ∧ T < s + 8 ∧ wr = w) (fun n _ => T - (intOf n).toNat)
    case atStart => first | exact ⟨64, rfl, by omega, by omega, rfl⟩ | exact ⟨s0, rfl, by omega, by omega, rfl⟩
    case round =>
      obtain ⟨s, rfl, hs1, hs2, rfl⟩ := hrel
      by_cases h8 : s % 8 = 0
      · have hsT : s = T := by omega
        subst hsT
        have hb8 : (((s : Int) % 8) != 0) = false := by simp; omega
        have HM := hmk
        have B1 : At _ _ _ _ := At.new wr 4 (boolsV (List.replicate s false))
        have hf1 := (Fr.refl No wr).alloc (.cells (boolsV (List.replicate s false)) 4)
        have hs1' : (wr.alloc (.cells (boolsV (List.replicate s false)) 4)).heap.size = wr.heap.size + 1 := by simp
        have fin : ∀ (x : Int), x = (P : Int) → ∃ b g, Ending.returned (.pointer (some ⟨wr.heap.size + 1, 0, none⟩)) = .returned (.pointer (some ⟨b, 0, none⟩)) ∧
            RFil ((wr.alloc (.cells (boolsV (List.replicate s false)) 4)).alloc (.cells #[.slice (some ⟨wr.heap.size, 0, none⟩) s s, .int .i64 x] 130)) b g (List.replicate s false) P ∧
            Fr No wr ((wr.alloc (.cells (boolsV (List.replicate s false)) 4)).alloc (.cells #[.slice (some ⟨wr.heap.size, 0, none⟩) s s, .int .i64 x] 130)) ∧ wr.heap.size ≤ b ∧ wr.heap.size ≤ g := fun x hx => by
          subst hx
          refine ⟨wr.heap.size + 1, wr.heap.size, rfl, ⟨?_, B1.keep ((Fr.refl No _).alloc _) (fun h => h), by omega⟩, hf1.alloc _, by omega, Nat.le_refl _⟩
          have := At.new (wr.alloc (.cells (boolsV (List.replicate s false)) 4)) 130 #[.slice (some ⟨wr.heap.size, 0, none⟩) s s, .int .i64 (P : Int)]
          rw [hs1'] at this
          simpa using this
        have FIN := Lib.hid fin
        clear B1 hf1 hs1' fin hT2 ht2 hs
        rcases hpw with ⟨p1, rfl⟩ | ⟨p1, p2⟩
        · go_wp2_with fail
          go_ret
          exact FIN.out 1 rfl
        · go_wp2_with fail
          go_ret
          exact FIN.out _ rfl
      · have hb8 : (((s : Int) % 8) != 0) = true := by simp; omega
        go_wp2_with fail
        go_roundw
        case rel => exact ⟨s + 1, by simp, by omega, by omega, by simp⟩
        case measure => simp [intOf]; omega
end Go.Proofs.YtlobnbbndkhcbaaGreatDoor

/- Layer 12, the program's own: part. -/
namespace Go.Proofs.YtlobnbbndkhcbaaGreatDoor
set_option linter.unusedVariables false
open Go.RowKit

/-- The pairs' bytes, and Every, by what the end says. -/
def partR (b : List UInt8) : Option (List UInt8 × Nat) :=
  match b.drop (b.length - 5) with
  | [x, y, z, u, v] => if 1 ≤ v.toNat ∧ v.toNat ≤ 64 ∧ wdB x y z u ≤ (b.length - 5) / 4 then some (b.take (b.length - 5 - wdB x y z u * 4), v.toNat) else none
  | _ => none
theorem five {b : List UInt8} (h : b.length = 5) : ∃ x y z u v, b = [x, y, z, u, v] := by
  match b, h with
  | [x, y, z, u, v], _ => exact ⟨x, y, z, u, v, rfl⟩
theorem partR_short {b : List UInt8} (h : b.length < 5) : partR b = none := by
  unfold partR
  split
  · rename_i x y z u v e
    have := congrArg List.length e
    rw [List.length_drop] at this
    simp only [List.length_cons, List.length_nil] at this
    omega
  · rfl
theorem partR_is {b : List UInt8} {x y z u v : UInt8} (h : b.drop (b.length - 5) = [x, y, z, u, v]) : partR b = if 1 ≤ v.toNat ∧ v.toNat ≤ 64 ∧ wdB x y z u ≤ (b.length - 5) / 4 then some (b.take (b.length - 5 - wdB x y z u * 4), v.toNat) else none := by
  unfold partR
  rw [h]
/-- A right block's bytes have these parts. -/
theorem part_block {e : Nat} {l : List Pr} (he : 1 ≤ e) (he2 : e ≤ 64) (hb : (blockB e l).length ≤ 100000) : partR (blockB e l) = some (pairsB e l l.length, e) := by
  have hl := blockB_len e l
  have hd : (blockB e l).drop ((blockB e l).length - 5) = word4 (startsN e l l.length).length ++ [UInt8.ofNat e] := by
    rw [hl]
    unfold blockB
    rw [List.append_assoc, List.drop_append_of_le_length (by rw [List.length_append, wordsB_len]; omega), List.drop_of_length_le (by rw [List.length_append, wordsB_len]; omega), List.nil_append]
  have hs : (startsN e l l.length).length < 4294967296 := by omega
  obtain ⟨x, y, z, u, hw⟩ : ∃ x y z u, word4 (startsN e l l.length).length = [x, y, z, u] := ⟨_, _, _, _, rfl⟩
  have hwd := wdB_word4 hs hw
  rw [hw] at hd
  rw [partR_is hd, hwd, toNat_ofNat (by omega), if_pos ⟨he, he2, by omega⟩, hl]
  congr 2
  unfold blockB
  rw [List.append_assoc, List.append_assoc, List.take_append_of_le_length (by omega), List.take_of_length_le (by omega)]
def PartRet (b : List UInt8) (w : World) (en : Ending) (w' : World) : Prop :=
  Fr No w w' ∧ en = .returned (.tuple (match partR b with | some (p, e) => #[.string (strOf p), .int .i64 (e : Int), .bool true] | none => #[.string emp, .int .i64 0, .bool false]))
theorem part_results (tmps : Array Value) (w : World) (x y z : Value) (h2 : tmps.getD 2 undef = x) (h3 : tmps.getD 3 undef = y) (h4 : tmps.getD 4 undef = z) :
    (results Tryz.f138 tmps).run Tryz.prog w = .ok (.tuple #[x, y, z]) w := by
  have h2' : tmps[2]?.getD undef = x := by simpa using h2
  have h3' : tmps[3]?.getD undef = y := by simpa using h3
  have h4' : tmps[4]?.getD undef = z := by simpa using h4
  simp [results, Tryz.results138, h2', h3', h4']
set_option maxRecDepth 20000 in
set_option maxHeartbeats 3200000 in
theorem part_c (a : Option Addr) (n cap : Nat) (b : List UInt8) (w : World) (hn : b.length = n) (hc : n ≤ cap) (hm : cap ≤ maxLen) (h1 : n ≤ 100000) (hr : Rd w a b) :
    Calls Tryz.prog 138 #[.slice a n cap] w (PartRet b w) := by
  by_cases h5 : n < 5
  · have HP : Hid (PartRet b w (.returned (.tuple #[.string ⟨#[]⟩, .int .i64 0, .bool false])) w) := Lib.hid ⟨Fr.refl _ _, by rw [partR_short (by omega)]; rfl⟩
    have d1 : decide ((n : Int) - 4 - 1 < 0) = true := by rw [decide_eq_true_eq]; omega
    clear hr hn
    go_enter Tryz.func138, Tryz.ntmps138
    go_wp2_with fail
    refine bodyPost_ret (part_results _ _ _ _ _ rfl rfl rfl) rfl ?_
    exact HP.out
  · obtain ⟨E, hE⟩ : ∃ E, n - 5 = E := ⟨_, rfl⟩
    have hbd : (b.drop E).length = 5 := by rw [List.length_drop]; omega
    obtain ⟨x, y, z, u, v, hd⟩ := five hbd
    have hpr := partR_is (b := b) (x := x) (y := y) (z := z) (u := u) (v := v) (by rw [hn, hE]; exact hd)
    rw [hn, hE] at hpr
    have HR4 : Rd w (cutAt a E cap) [x, y, z, u] := by
      have := (hr.drop E cap (by omega)).take 4
      rw [hd] at this
      exact this
    have CP := Lib.hid (parse_b (cutAt a E cap) (cap - E) x y z u w HR4)
    have hEi : (n : Int) - 4 - 1 = (E : Int) := by omega
    have hE0 : ¬ (E : Int) < 0 := by omega
    obtain ⟨E4, hE4⟩ : ∃ E4, E + 4 = E4 := ⟨_, rfl⟩
    have hE4i : (E : Int) + 4 = (E4 : Int) := by omega
    have S1 := cut_both (P := Tryz.prog) Tryz.underlying27 sizeU8 a n cap E E4 (by omega) (by omega)
    rw [show E4 - E = 4 by omega] at S1
    have hv : b.getD E4 0 = v := by
      have h9 : b[E4]? = (b.drop E)[4]? := by rw [List.getElem?_drop, hE4]
      rw [List.getD_eq_getElem?_getD, h9, hd]
      rfl
    obtain ⟨B, o, rfl, hcell⟩ := hr (by omega)
    have c4 := hcell E4 (by omega)
    rw [hv] at c4
    have HCELL := Lib.hid hcell
    have hE4n : (E4 : Int) < (n : Int) := by omega
    have hE40 : (0 : Int) ≤ (E4 : Int) := by omega
    obtain ⟨vn, hvn⟩ : ∃ vn, v.toNat = vn := ⟨_, rfl⟩
    rw [hvn] at c4 hpr
    obtain ⟨wd, hwd⟩ : ∃ wd, wdB x y z u = wd := ⟨_, rfl⟩
    have hwl := wdB_lt x y z u
    rw [hwd] at CP hpr hwl
    have CR := Lib.hid (fun w => right_c (vn : Int) w)
    have hvl : vn < 256 := by rw [← hvn]; exact v.toNat_lt
    have HR := Lib.hid hr
    have HN := Lib.hid hn
    have HPR := Lib.hid hpr
    clear hr hd hbd HR4 hv hvn hwd hcell hpr hE4 hE hn
    by_cases hrt : 1 ≤ vn ∧ vn ≤ 64
    · have hre : rightE (vn : Int) = true := by unfold rightE; rw [decide_eq_true (by omega), decide_eq_true (by omega)]; rfl
      by_cases hwq : wd ≤ E / 4
      · have d1 : decide ((wd : Int) > (E : Int) / 4) = false := by rw [decide_eq_false_iff_not]; omega
        obtain ⟨m, hm'⟩ : ∃ m, E - wd * 4 = m := ⟨_, rfl⟩
        have hmi : (E : Int) - (wd : Int) * 4 = (m : Int) := by omega
        have S2 := cut_hi (P := Tryz.prog) Tryz.underlying27 sizeU8 (some ⟨B, o, none⟩) n cap m (by omega)
        have HCV : Hid (∀ w', Fr No w w' → (convert 27 9 (.slice (some ⟨B, o, none⟩) m cap)).run Tryz.prog w' = .ok (.string (strOf (b.take m))) w') := Lib.hid fun w' f => conv_rd w' _ m cap (b.take m) (by rw [List.length_take, HN.out]; omega) (((In.of_rd HR.out).keep f (fun _ _ h => h)).rd.take m)
        have HPR2 : Hid (partR b = some (b.take m, vn)) := Lib.hid (by rw [HPR.out, if_pos ⟨hrt.1, hrt.2, hwq⟩, hm'])
        have HVB : Hid (∀ w', Fr No w w' → PartRet b w (.returned (.tuple #[.string (strOf (b.take m)), .int .i64 (vn : Int), .bool true])) w') := Lib.hid fun w' f => ⟨f, by rw [HPR2.out]⟩
        generalize strOf (b.take m) = sm at *
        clear hm'
        go_enter Tryz.func138, Tryz.ntmps138
        go_wp2_with fail
        refine (show Calls _ _ _ _ _ from CP.out).mono ?_
        rintro e1 w1 ⟨rfl, f1⟩
        have c4 := f1.cell c4 (fun h => h)
        have hcv := HCV.out w1 f1
        have HP := Lib.hid (HVB.out w1 f1)
        clear f1
        go_wp2_with fail
        refine (show Calls _ _ _ _ _ from CR.out w1).mono ?_
        rintro e2 w2 ⟨rfl, rfl⟩
        rw [hre]
        go_wp2_with fail
        refine bodyPost_ret (part_results _ _ _ _ _ rfl rfl rfl) rfl ?_
        exact HP.out
      · have d1 : decide ((wd : Int) > (E : Int) / 4) = true := by rw [decide_eq_true_eq]; omega
        have HPN : Hid (partR b = none) := Lib.hid (by rw [HPR.out, if_neg (fun h => hwq h.2.2)])
        go_enter Tryz.func138, Tryz.ntmps138
        go_wp2_with fail
        refine (show Calls _ _ _ _ _ from CP.out).mono ?_
        rintro e1 w1 ⟨rfl, f1⟩
        have c4 := f1.cell c4 (fun h => h)
        have HF1 := Lib.hid f1
        have HP : Hid (PartRet b w (.returned (.tuple #[.string ⟨#[]⟩, .int .i64 0, .bool false])) w1) := Lib.hid ⟨f1, by rw [HPN.out]; rfl⟩
        clear f1
        go_wp2_with fail
        refine (show Calls _ _ _ _ _ from CR.out w1).mono ?_
        rintro e2 w2 ⟨rfl, rfl⟩
        rw [hre]
        go_wp2_with fail
        refine bodyPost_ret (part_results _ _ _ _ _ rfl rfl rfl) rfl ?_
        exact HP.out
    · have hre : rightE (vn : Int) = false := by
        unfold rightE
        by_cases h : 1 ≤ vn
        · rw [decide_eq_true (by omega), decide_eq_false (by omega)]; rfl
        · rw [decide_eq_false (by omega)]; rfl
      have HPN : Hid (partR b = none) := Lib.hid (by rw [HPR.out, if_neg (fun h => hrt ⟨h.1, h.2.1⟩)])
      go_enter Tryz.func138, Tryz.ntmps138
      go_wp2_with fail
      refine (show Calls _ _ _ _ _ from CP.out).mono ?_
      rintro e1 w1 ⟨rfl, f1⟩
      have c4 := f1.cell c4 (fun h => h)
      have HF1 := Lib.hid f1
      have HP : Hid (PartRet b w (.returned (.tuple #[.string ⟨#[]⟩, .int .i64 0, .bool false])) w1) := Lib.hid ⟨f1, by rw [HPN.out]; rfl⟩
      clear f1
      go_wp2_with fail
      refine (show Calls _ _ _ _ _ from CR.out w1).mono ?_
      rintro e2 w2 ⟨rfl, rfl⟩
      rw [hre]
      go_wp2_with fail
      refine bodyPost_ret (part_results _ _ _ _ _ rfl rfl rfl) rfl ?_
      exact HP.out
end Go.Proofs.YtlobnbbndkhcbaaGreatDoor

/- Contract of layer 2's document: Text. -/
namespace Go.Proofs.YtlobnbbndkhcbaaGreatDoor
set_option linter.unusedVariables false
open Go.RowKit

set_option maxHeartbeats 400000 in
theorem refText_c (a : Option Addr) (len cap : Nat) (l : List UInt8) (w : World) (hl : l.length = len) (hm : len ≤ 1000000) (hr : Rd w a l) :
    Calls Tryz.prog 77 #[.slice a len cap] w (NewRow (enc len ++ l) w) := by
  have HL := Lib.hid hl
  have HR := Lib.hid hr
  clear hl hr
  go_enter Tryz.func77, Tryz.ntmps77
  go_wp2_with fail
  refine (refNumber_c len w (by omega)).mono ?_
  rintro e w1 ⟨v, rfl, hrow, hfr⟩
  have h9 := enc_len9 (show len < 9223372036854775808 by omega)
  obtain ⟨v', W, hrun, hrow2, hfr2⟩ := hrow.append a len cap l HL.out ((In.of_rd HR.out).keep hfr (fun _ _ h => h)).rd (by omega)
  have HRUN := Lib.hid hrun
  have HN : Hid (NewRow (enc len ++ l) w (.returned v') W) := Lib.hid ⟨_, rfl, hrow2.join hfr.size hfr2.size, hfr.then_ hfr2 fun k hk h => Gr.old hk h⟩
  clear hrun hrow2 hfr2 hrow hfr HR h9
  go_wp2_with (at_builtin; refine wpList_append_run rfl _ _ 27 rfl rfl rfl HRUN.out ?_)
  go_ret
  exact HN.out
end Go.Proofs.YtlobnbbndkhcbaaGreatDoor

/- Contracts of layer 2's writer: texts. -/
namespace Go.Proofs.YtlobnbbndkhcbaaGreatDoor
set_option linter.unusedVariables false
open Go.RowKit

set_option maxHeartbeats 400000 in
theorem wtext_c (a : Option Addr) (len cap : Nat) (l : List UInt8) (w : World) (B : Nat) (S : Nat → Prop) (p : List UInt8) (bad : Bool) (hw : Wr w B S p bad) (hl : l.length = len) (hm : p.length + 9 + len ≤ 140737488355328)
    (hr : In w (fun k => k ≠ B ∧ ¬ S k) a l) :
    Calls Tryz.prog 105 #[.pointer (some ⟨B, 0, none⟩), .slice a len cap] w (WrRet B S (p ++ (enc len ++ l)) bad w) := by
  have HR := Lib.hid hr
  have HL := Lib.hid hl
  have HW := Lib.hid hw
  clear hr hl hw
  go_enter Tryz.func105, Tryz.ntmps105
  go_wp2_with fail
  refine (wnum_c len w B S p bad HW.out (by omega) (by omega)).mono ?_
  rintro e w1 ⟨rfl, h1, h2⟩
  have h9 := enc_len9 (show len < 9223372036854775808 by omega)
  have hr1 : In w1 (fun k => k ≠ B ∧ ¬ S k) a l := HR.out.keep h2 fun k hk h => h.elim hk.1 hk.2
  have HC := Lib.hid (wraw_c a len cap l w1 B (Gr S w w1) (p ++ enc len) bad h1 HL.out (by rw [List.length_append]; omega) hr1.rd)
  have H2 := Lib.hid h2
  clear h1 h2 h9 hr1
  go_wp2_with fail
  refine (show Calls _ _ _ _ _ from HC.out).mono ?_
  intro e w2 h3
  obtain ⟨rfl, h4⟩ := WrRet.from H2.out h3
  rw [List.append_assoc] at h4
  clear h3
  have H4 := Lib.hid h4
  clear h4
  go_wp2_with fail
  go_ret
  exact ⟨rfl, H4.out⟩

end Go.Proofs.YtlobnbbndkhcbaaGreatDoor

/- Contracts of layer 2's reader: texts. -/
namespace Go.Proofs.YtlobnbbndkhcbaaGreatDoor
set_option linter.unusedVariables false
open Go.RowKit

set_option maxHeartbeats 400000 in
theorem rtextC_c (w : World) (B : Nat) (S : Nat → Prop) (st : St) (hr : Rr w B S st) :
    Calls Tryz.prog 136 #[.pointer (some ⟨B, 0, none⟩)] w (SliceRetC B S (textS st).1 (textS st).2 w) := by
  obtain ⟨l, bad⟩ := st
  have hr0 := hr
  obtain ⟨a, cap, hat, h2, h3, hin, hS⟩ := hr
  simp only at hat h2 hin
  have c2 : w.cell? ⟨B, 0, none⟩ = some (.slice a l.length cap) := by rw [hat.cell]; rfl
  have HD := Lib.hid (number_c a l.length cap l w rfl (by omega) hin.rd)
  have HC : Hid (Calls Tryz.prog 146 #[.pointer (some ⟨B, 0, none⟩), .int .i64 (decI l).2, .int .i64 (decI l).1] w (SliceRetC B S (textS (l, bad)).1 (textS (l, bad)).2 w)) := by
    unfold decI textS
    simp only
    cases hd : dec 9 0 l with
    | none => exact Lib.hid (takeC_bad (-1) (-1) w B S l bad hr0 (.inr (by decide)))
    | some p =>
      obtain ⟨n, k⟩ := p
      obtain ⟨b1, b2, b3, b4⟩ := dec_lt9 l n k hd
      cases bad with
      | true =>
        simp only
        rw [takeS_bad]
        exact Lib.hid (takeC_bad k n w B S l true hr0 (.inl rfl))
      | false => exact Lib.hid (takeC_c k n w B S l hr0 (by omega) (by omega) b2)
  clear hat h2 h3 hin hS hr0
  unfold retII at HD
  generalize (decI l).1 = n at *
  generalize (decI l).2 = k at *
  generalize textS (l, bad) = r at HC
  generalize l.length = len at *
  go_enter Tryz.func136, Tryz.ntmps136
  go_wp2_with fail
  refine (show Calls _ _ _ _ _ from HD.out).mono ?_
  rintro e w' ⟨rfl, rfl⟩
  go_wp2_with fail
  refine (show Calls _ _ _ _ _ from HC.out).mono ?_
  rintro e w' ⟨a, cap, rfl, h1, h2, h3, h4, h5⟩
  have HN : Hid (SliceRetC B S r.1 r.2 w (.returned (.slice a r.1.length cap)) w') := Lib.hid ⟨a, cap, rfl, h1, h2, h3, h4, h5⟩
  clear h1 h2 h3 h4 h5
  go_wp2_with fail
  go_ret
  exact HN.out
theorem rtext_c (w : World) (B : Nat) (S : Nat → Prop) (st : St) (hr : Rr w B S st) :
    Calls Tryz.prog 136 #[.pointer (some ⟨B, 0, none⟩)] w (SliceRet B S (textS st).1 (textS st).2 w) := (rtextC_c w B S st hr).mono fun _ _ h => h.ret

end Go.Proofs.YtlobnbbndkhcbaaGreatDoor

/- Layer 2: the reader's Raw. -/
namespace Go.Proofs.YtlobnbbndkhcbaaGreatDoor
set_option linter.unusedVariables false
open Go.RowKit

set_option maxHeartbeats 400000 in
theorem rraw_c (n : Int) (w : World) (B : Nat) (S : Nat → Prop) (st : St) (hr : Rr w B S st) (hn : n ≤ 9223372036854775807) :
    Calls Tryz.prog 134 #[.pointer (some ⟨B, 0, none⟩), .int .i64 n] w (SliceRet B S (takeS 0 n st).1 (takeS 0 n st).2 w) := by
  have HC : Hid (Calls Tryz.prog 146 #[.pointer (some ⟨B, 0, none⟩), .int .i64 0, .int .i64 n] w (SliceRet B S (takeS 0 n st).1 (takeS 0 n st).2 w)) := by
    obtain ⟨l, bad⟩ := st
    by_cases h : bad = true ∨ n < 0
    · have e : takeS 0 n (l, bad) = ([], (l, true)) := by
        unfold takeS
        rw [if_pos (h.elim .inl fun h => .inr (.inl h))]
      rw [e]
      exact Lib.hid (take_bad 0 n w B S l bad hr h)
    · have hb : bad = false := by simpa using fun hb => h (.inl hb)
      subst hb
      exact Lib.hid (take_c 0 n w B S l hr (by simp at h; omega) hn (Nat.zero_le _))
  clear hr
  generalize takeS 0 n st = r at HC
  go_enter Tryz.func134, Tryz.ntmps134
  go_wp2_with fail
  refine (show Calls _ _ _ _ _ from HC.out).mono ?_
  rintro e w' ⟨a, cap, rfl, h1, h2, h3⟩
  have HN : Hid (SliceRet B S r.1 r.2 w (.returned (.slice a r.1.length cap)) w') := Lib.hid ⟨a, cap, rfl, h1, h2, h3⟩
  clear h1 h2 h3
  go_wp2_with fail
  go_ret
  exact HN.out

end Go.Proofs.YtlobnbbndkhcbaaGreatDoor
