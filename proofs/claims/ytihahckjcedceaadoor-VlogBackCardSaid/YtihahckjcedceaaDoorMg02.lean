/-
  Texts of layer 14 and of what it stands on, one behind the other.
-/
import Derived.Lib.Bytealg
import Derived.Lib.BitFns

/- Plain mathematics of layer 3: the order of bytes, keys' bytes, and how they are read. No program is named. -/
namespace Go.Proofs.YtihahckjcedceaaDoor

/-- -1, 0, 1. -/
def cmpI (x y : Int) : Int := if x < y then -1 else if y < x then 1 else 0
/-- The first that is not 0. -/
def orI (x y z : Int) : Int := if x = 0 then (if y = 0 then z else y) else x
abbrev cmpB (a b : List UInt8) : Int := Lib.compareBytes a b

theorem cmpI_cases (x y : Int) : (x < y ∧ cmpI x y = -1) ∨ (¬ x < y ∧ y < x ∧ cmpI x y = 1) ∨ (x = y ∧ cmpI x y = 0) := by
  unfold cmpI
  by_cases h1 : x < y
  · exact .inl ⟨h1, if_pos h1⟩
  · by_cases h2 : y < x
    · exact .inr (.inl ⟨h1, h2, by rw [if_neg h1, if_pos h2]⟩)
    · exact .inr (.inr ⟨by omega, by rw [if_neg h1, if_neg h2]⟩)

theorem cmpB_cons (x y : UInt8) (a b : List UInt8) : cmpB (x :: a) (y :: b) = if x < y then -1 else if y < x then 1 else cmpB a b := rfl
theorem cmpB_same (x : UInt8) (a b : List UInt8) : cmpB (x :: a) (x :: b) = cmpB a b := by
  rw [cmpB_cons, if_neg (UInt8.lt_irrefl x), if_neg (UInt8.lt_irrefl x)]
theorem cmpB_lt {x y : UInt8} (h : x < y) (a b : List UInt8) : cmpB (x :: a) (y :: b) = -1 := by rw [cmpB_cons, if_pos h]
theorem cmpB_gt {x y : UInt8} (h : y < x) (a b : List UInt8) : cmpB (x :: a) (y :: b) = 1 := by rw [cmpB_cons, if_neg (fun h' => UInt8.lt_irrefl _ (UInt8.lt_trans h h')), if_pos h]
theorem u8_three (x y : UInt8) : x < y ∨ y < x ∨ x = y := by
  have h1 : x < y ↔ x.toNat < y.toNat := UInt8.lt_iff_toNat_lt
  have h2 : y < x ↔ y.toNat < x.toNat := UInt8.lt_iff_toNat_lt
  have h3 : x = y ↔ x.toNat = y.toNat := UInt8.toNat_inj.symm
  rw [h1, h2, h3]
  omega
theorem cmpB_append (p a b : List UInt8) : cmpB (p ++ a) (p ++ b) = cmpB a b := by
  induction p with
  | nil => rfl
  | cons x p ih => rw [List.cons_append, List.cons_append, cmpB_same, ih]
theorem cmpB_self (a : List UInt8) : cmpB a a = 0 := by
  induction a with
  | nil => rfl
  | cons x a ih => rw [cmpB_same, ih]
theorem cmpB_zero : ∀ (a b : List UInt8), cmpB a b = 0 → a = b
  | [], [], _ => rfl
  | [], _ :: _, h => by simp [Lib.compareBytes] at h
  | _ :: _, [], h => by simp [Lib.compareBytes] at h
  | x :: a, y :: b, h => by
    rcases u8_three x y with h1 | h1 | h1
    · rw [cmpB_lt h1] at h; omega
    · rw [cmpB_gt h1] at h; omega
    · subst h1
      rw [cmpB_same] at h
      rw [cmpB_zero a b h]
theorem cmpB_range : ∀ (a b : List UInt8), cmpB a b = -1 ∨ cmpB a b = 0 ∨ cmpB a b = 1
  | [], [] => .inr (.inl rfl)
  | [], _ :: _ => .inl rfl
  | _ :: _, [] => .inr (.inr rfl)
  | x :: a, y :: b => by
    rcases u8_three x y with h1 | h1 | h1
    · exact .inl (cmpB_lt h1 a b)
    · exact .inr (.inr (cmpB_gt h1 a b))
    · subst h1
      rw [cmpB_same]
      exact cmpB_range a b
theorem cmpB_neg : ∀ (a b : List UInt8), cmpB b a = - cmpB a b
  | [], [] => rfl
  | [], _ :: _ => rfl
  | _ :: _, [] => rfl
  | x :: a, y :: b => by
    rcases u8_three x y with h1 | h1 | h1
    · rw [cmpB_lt h1, cmpB_gt h1]; rfl
    · rw [cmpB_lt h1, cmpB_gt h1]
    · subst h1
      rw [cmpB_same, cmpB_same]
      exact cmpB_neg a b
/-- Of three: not behind, and not behind: not behind; and one of them ahead: ahead. -/
theorem cmpB_trans : ∀ (a b c : List UInt8), cmpB a b ≤ 0 → cmpB b c ≤ 0 → cmpB a c ≤ 0 ∧ (cmpB a c = 0 → cmpB a b = 0 ∧ cmpB b c = 0)
  | [], [], c, _, h => ⟨h, fun h' => ⟨rfl, h'⟩⟩
  | [], _ :: _, [], _, h => by simp [Lib.compareBytes] at h
  | [], _ :: _, _ :: _, _, _ => ⟨by simp [Lib.compareBytes], fun h => by simp [Lib.compareBytes] at h⟩
  | _ :: _, [], _, h, _ => by simp [Lib.compareBytes] at h
  | _ :: _, _ :: _, [], _, h => by simp [Lib.compareBytes] at h
  | x :: a, y :: b, z :: c, h1, h2 => by
    rcases u8_three x y with g1 | g1 | g1
    · rcases u8_three y z with g2 | g2 | g2
      · rw [cmpB_lt (UInt8.lt_trans g1 g2)]
        exact ⟨by omega, fun h => by omega⟩
      · rw [cmpB_gt g2] at h2; omega
      · subst g2
        rw [cmpB_lt g1]
        exact ⟨by omega, fun h => by omega⟩
    · rw [cmpB_gt g1] at h1; omega
    · subst g1
      rcases u8_three x z with g2 | g2 | g2
      · rw [cmpB_lt g2]
        exact ⟨by omega, fun h => by omega⟩
      · rw [cmpB_gt g2] at h2; omega
      · subst g2
        rw [cmpB_same] at h1 h2 ⊢
        rw [cmpB_same, cmpB_same]
        exact cmpB_trans a b c h1 h2
/-- Behind bytes of one length that differ, nothing turns the order. -/
theorem cmpB_tail : ∀ (a b s t : List UInt8), a.length = b.length → a ≠ b → cmpB (a ++ s) (b ++ t) = cmpB a b
  | [], [], _, _, _, h => absurd rfl h
  | [], _ :: _, _, _, h, _ => by simp at h
  | _ :: _, [], _, _, h, _ => by simp at h
  | x :: a, y :: b, s, t, hl, h => by
    rw [List.cons_append, List.cons_append]
    rcases u8_three x y with h1 | h1 | h1
    · rw [cmpB_lt h1, cmpB_lt h1]
    · rw [cmpB_gt h1, cmpB_gt h1]
    · subst h1
      rw [cmpB_same, cmpB_same]
      exact cmpB_tail a b s t (by simpa using hl) (fun e => h (by rw [e]))

/-! ### Gone through place by place. -/
theorem cmpB_drop (a b : List UInt8) (k : Nat) (h : a.length = k ∨ b.length = k) (hc : k ≤ a.length) (hd : k ≤ b.length) (he : cmpB a b = cmpB (a.drop k) (b.drop k)) : cmpB a b = cmpI a.length b.length := by
  rw [he]
  rcases h with h | h
  · rw [List.drop_of_length_le (by omega : a.length ≤ k)]
    cases hb : b.drop k with
    | nil =>
      have : b.length ≤ k := by simpa using List.drop_eq_nil_iff.1 hb
      unfold cmpI
      rw [if_neg (by omega), if_neg (by omega)]
      rfl
    | cons x r =>
      have : k < b.length := by
        rcases Nat.lt_or_ge k b.length with h' | h'
        · exact h'
        · rw [List.drop_of_length_le h'] at hb; cases hb
      unfold cmpI
      rw [if_pos (by omega)]
      rfl
  · rw [List.drop_of_length_le (by omega : b.length ≤ k)]
    cases hb : a.drop k with
    | nil =>
      have : a.length ≤ k := by simpa using List.drop_eq_nil_iff.1 hb
      unfold cmpI
      rw [if_neg (by omega), if_neg (by omega)]
      rfl
    | cons x r =>
      have : k < a.length := by
        rcases Nat.lt_or_ge k a.length with h' | h'
        · exact h'
        · rw [List.drop_of_length_le h'] at hb; cases hb
      unfold cmpI
      rw [if_neg (by omega), if_pos (by omega)]
      rfl
theorem cmpB_step (a b : List UInt8) (k : Nat) (hc : k < a.length) (hd : k < b.length) (he : cmpB a b = cmpB (a.drop k) (b.drop k)) :
    (((a.getD k 0).toNat : Int) < (b.getD k 0).toNat → cmpB a b = -1) ∧ (((b.getD k 0).toNat : Int) < (a.getD k 0).toNat → cmpB a b = 1) ∧
    (¬ ((a.getD k 0).toNat : Int) < (b.getD k 0).toNat → ¬ ((b.getD k 0).toNat : Int) < (a.getD k 0).toNat → cmpB a b = cmpB (a.drop (k + 1)) (b.drop (k + 1))) := by
  rw [List.drop_eq_getElem_cons hc, List.drop_eq_getElem_cons hd, cmpB_cons] at he
  have e1 : a.getD k 0 = a[k] := by simp [List.getD, hc]
  have e2 : b.getD k 0 = b[k] := by simp [List.getD, hd]
  rw [e1, e2]
  have n1 : a[k] < b[k] ↔ a[k].toNat < b[k].toNat := UInt8.lt_iff_toNat_lt
  have n2 : b[k] < a[k] ↔ b[k].toNat < a[k].toNat := UInt8.lt_iff_toNat_lt
  refine ⟨fun h => ?_, fun h => ?_, fun h h' => ?_⟩
  · rw [he, if_pos (n1.2 (by omega))]
  · rw [he, if_neg (fun h' => by have := n1.1 h'; omega), if_pos (n2.2 (by omega))]
  · rw [he, if_neg (fun h'' => by have := n1.1 h''; omega), if_neg (fun h'' => by have := n2.1 h''; omega)]

/-! ### A key's bytes. -/
def esc (c : UInt8) : List UInt8 := if c = 0 then [0, 255] else [c]
def escs (u : List UInt8) : List UInt8 := u.flatMap esc
def six (n : Nat) : List UInt8 := [UInt8.ofNat (n / 1099511627776), UInt8.ofNat (n / 4294967296), UInt8.ofNat (n / 16777216), UInt8.ofNat (n / 65536), UInt8.ofNat (n / 256), UInt8.ofNat n]
def tailB (q k : Int) : List UInt8 := six (1099511627776 - q).toNat ++ [UInt8.ofNat (255 - k).toNat]
def encK (u : List UInt8) (q k : Int) : List UInt8 := escs u ++ ([0, 1] ++ tailB q k)

theorem tailB_length (q k : Int) : (tailB q k).length = 7 := rfl
theorem escs_nil : escs [] = [] := rfl
theorem escs_cons (c : UInt8) (u : List UInt8) : escs (c :: u) = esc c ++ escs u := rfl
theorem escs_append (u v : List UInt8) : escs (u ++ v) = escs u ++ escs v := by simp [escs]
theorem escs_zero (u : List UInt8) : escs (0 :: u) = 0 :: 255 :: escs u := rfl
theorem escs_other {c : UInt8} (h : c ≠ 0) (u : List UInt8) : escs (c :: u) = c :: escs u := by rw [escs_cons, esc, if_neg h]; rfl
theorem escs_length (u : List UInt8) : (escs u).length ≤ 2 * u.length := by
  induction u with
  | nil => exact Nat.le_refl _
  | cons c u ih =>
    by_cases h : c = 0
    · subst h; rw [escs_zero]; simp only [List.length_cons]; omega
    · rw [escs_other h]; simp only [List.length_cons]; omega
theorem u8_pos {c : UInt8} (h : c ≠ 0) : 0 < c := by
  rcases u8_three 0 c with h1 | h1 | h1
  · exact h1
  · exact absurd h1 (by simp)
  · exact absurd h1.symm h
/-- Users' bytes and their ends keep the users' order; of one user what is behind tells. -/
theorem cmpB_escs : ∀ (u v x y : List UInt8), cmpB (escs u ++ (0 :: 1 :: x)) (escs v ++ (0 :: 1 :: y)) = if u = v then cmpB x y else cmpB u v
  | [], [], x, y => by
    rw [if_pos rfl, escs_nil, List.nil_append, List.nil_append, cmpB_same, cmpB_same]
  | [], d :: v, x, y => by
    rw [if_neg (by simp), escs_nil, List.nil_append]
    by_cases h : d = 0
    · subst h
      rw [escs_zero, List.cons_append, List.cons_append, cmpB_same, cmpB_lt (by decide)]
      rfl
    · rw [escs_other h, List.cons_append, cmpB_lt (u8_pos h)]
      rfl
  | c :: u, [], x, y => by
    rw [if_neg (by simp), escs_nil, List.nil_append]
    by_cases h : c = 0
    · subst h
      rw [escs_zero, List.cons_append, List.cons_append, cmpB_same, cmpB_gt (by decide)]
      rfl
    · rw [escs_other h, List.cons_append, cmpB_gt (u8_pos h)]
      rfl
  | c :: u, d :: v, x, y => by
    by_cases h : c = d
    · subst h
      rw [escs_cons, escs_cons, List.append_assoc, List.append_assoc, cmpB_append, cmpB_escs u v x y, cmpB_same]
      by_cases h' : u = v
      · subst h'; rw [if_pos rfl, if_pos rfl]
      · rw [if_neg h', if_neg (fun e => h' (List.cons.inj e).2)]
    · rw [if_neg (fun e => h (List.cons.inj e).1)]
      by_cases hc : c = 0
      · subst hc
        have hd := u8_pos (fun e => h e.symm : d ≠ 0)
        rw [escs_zero, escs_other (fun e => h e.symm : d ≠ 0)]
        simp only [List.cons_append]
        rw [cmpB_lt hd, cmpB_lt hd]
      · by_cases hd : d = 0
        · subst hd
          have hc' := u8_pos hc
          rw [escs_zero, escs_other hc]
          simp only [List.cons_append]
          rw [cmpB_gt hc', cmpB_gt hc']
        · rw [escs_other hc, escs_other hd, List.cons_append, List.cons_append, cmpB_cons, cmpB_cons]
          rcases u8_three c d with h1 | h1 | h1
          · rw [if_pos h1, if_pos h1]
          · rw [if_neg (fun h' => UInt8.lt_irrefl _ (UInt8.lt_trans h1 h')), if_pos h1, if_neg (fun h' => UInt8.lt_irrefl _ (UInt8.lt_trans h1 h')), if_pos h1]
          · exact absurd h1 h
theorem toNat_ofNat8 (n : Nat) : (UInt8.ofNat n).toNat = n % 256 := by rw [UInt8.toNat_ofNat']
theorem cmpB_one (m n : Nat) (a b : List UInt8) : cmpB (UInt8.ofNat m :: a) (UInt8.ofNat n :: b) = orI (cmpI (m % 256 : Nat) (n % 256 : Nat)) (cmpB a b) 0 := by
  rw [cmpB_cons]
  have n1 : UInt8.ofNat m < UInt8.ofNat n ↔ m % 256 < n % 256 := by rw [UInt8.lt_iff_toNat_lt, toNat_ofNat8, toNat_ofNat8]
  have n2 : UInt8.ofNat n < UInt8.ofNat m ↔ n % 256 < m % 256 := by rw [UInt8.lt_iff_toNat_lt, toNat_ofNat8, toNat_ofNat8]
  rcases cmpI_cases (m % 256 : Nat) (n % 256 : Nat) with ⟨h1, h2⟩ | ⟨h1, h2, h3⟩ | ⟨h1, h2⟩
  · rw [if_pos (n1.2 (by omega)), h2]; rfl
  · rw [if_neg (fun h => by have := n1.1 h; omega), if_pos (n2.2 (by omega)), h3]; rfl
  · rw [if_neg (fun h => by have := n1.1 h; omega), if_neg (fun h => by have := n2.1 h; omega), h2]
    unfold orI
    rw [if_pos rfl]
    split
    · rename_i h; rw [h]
    · rfl
theorem orI_cmpI (a b c d : Nat) (M : Nat) (hb : b < M) (hd : d < M) : orI (cmpI a c) (cmpI b d) 0 = cmpI ((a * M + b : Nat) : Int) ((c * M + d : Nat) : Int) := by
  have key : ∀ x y : Nat, x < y → x * M + M ≤ y * M := fun x y h => by
    have : (x + 1) * M ≤ y * M := Nat.mul_le_mul_right M h
    rwa [Nat.succ_mul] at this
  rcases cmpI_cases (a : Int) c with ⟨h1, h2⟩ | ⟨h1, h2, h3⟩ | ⟨h1, h2⟩
  · rw [h2]
    have := key a c (by omega)
    unfold cmpI orI
    rw [if_neg (by omega), if_pos (by omega)]
  · rw [h3]
    have := key c a (by omega)
    unfold cmpI orI
    rw [if_neg (by omega), if_neg (by omega), if_pos (by omega)]
  · have : a = c := by omega
    subst this
    rw [h2]
    unfold orI
    rw [if_pos rfl]
    rcases cmpI_cases (b : Int) d with ⟨g1, g2⟩ | ⟨g1, g2, g3⟩ | ⟨g1, g2⟩
    · rw [g2, if_neg (by omega)]; unfold cmpI; rw [if_pos (by omega)]
    · rw [g3, if_neg (by omega)]; unfold cmpI; rw [if_neg (by omega), if_pos (by omega)]
    · rw [g2, if_pos rfl]; unfold cmpI; rw [if_neg (by omega), if_neg (by omega)]
theorem cmpB_nil_tail (a b : List UInt8) : orI (cmpB a b) 0 0 = cmpB a b := by
  unfold orI
  split
  · rename_i h; rw [h]; rfl
  · rfl
theorem cmpB_six (m n : Nat) (hm : m < 281474976710656) (hn : n < 281474976710656) : cmpB (six m) (six n) = cmpI m n := by
  unfold six
  rw [cmpB_one, cmpB_one, cmpB_one, cmpB_one, cmpB_one, cmpB_one]
  have e0 : orI (cmpI (m % 256 : Nat) (n % 256 : Nat)) (cmpB [] []) 0 = cmpI (m % 256 : Nat) (n % 256 : Nat) := by
    show orI (cmpI (m % 256 : Nat) (n % 256 : Nat)) 0 0 = _
    unfold orI
    split
    · rename_i h; rw [h]; rfl
    · rfl
  rw [e0, orI_cmpI (m / 256 % 256) (m % 256) (n / 256 % 256) (n % 256) 256 (by omega) (by omega), orI_cmpI (m / 65536 % 256) _ (n / 65536 % 256) _ 65536 (by omega) (by omega),
    orI_cmpI (m / 16777216 % 256) _ (n / 16777216 % 256) _ 16777216 (by omega) (by omega), orI_cmpI (m / 4294967296 % 256) _ (n / 4294967296 % 256) _ 4294967296 (by omega) (by omega),
    orI_cmpI (m / 1099511627776 % 256) _ (n / 1099511627776 % 256) _ 1099511627776 (by omega) (by omega)]
  congr 1 <;> omega

/-- Is it right? -/
def Rt (n q k : Int) : Prop := 1 ≤ n ∧ n ≤ 64 ∧ 0 ≤ q ∧ q ≤ 1099511627776 ∧ 1 ≤ k ∧ k ≤ 3
instance (n q k : Int) : Decidable (Rt n q k) := by unfold Rt; infer_instance

theorem six_length (n : Nat) : (six n).length = 6 := rfl
theorem orI_assoc0 (x y : Int) : orI x y 0 = if x = 0 then y else x := by
  unfold orI
  split
  · split
    · rename_i h; rw [h]
    · rfl
  · rfl
theorem cmpB_tailB (n q k n' q' k' : Int) (h : Rt n q k) (h' : Rt n' q' k') : cmpB (tailB q k) (tailB q' k') = orI (cmpI q' q) (cmpI k' k) 0 := by
  obtain ⟨_, _, h1, h2, h3, h4⟩ := h
  obtain ⟨_, _, g1, g2, g3, g4⟩ := h'
  unfold tailB
  by_cases he : q = q'
  · subst he
    rw [cmpB_append, cmpB_one]
    have e1 : cmpI q q = 0 := by unfold cmpI; rw [if_neg (by omega), if_neg (by omega)]
    have e2 : cmpI (((255 - k).toNat % 256 : Nat) : Int) (((255 - k').toNat % 256 : Nat) : Int) = cmpI k' k := by
      rcases cmpI_cases k' k with ⟨a1, a2⟩ | ⟨a1, a2, a3⟩ | ⟨a1, a2⟩
      · rw [a2]; unfold cmpI; rw [if_pos (by omega)]
      · rw [a3]; unfold cmpI; rw [if_neg (by omega), if_pos (by omega)]
      · rw [a2]; unfold cmpI; rw [if_neg (by omega), if_neg (by omega)]
    rw [e1, e2, show cmpB [] [] = 0 from rfl, orI_assoc0, orI_assoc0, if_pos rfl]
    split
    · rename_i h; rw [h]
    · rfl
  · have hne : six (1099511627776 - q).toNat ≠ six (1099511627776 - q').toNat := by
      intro e
      have h0 := cmpB_self (six (1099511627776 - q).toNat)
      conv at h0 => lhs; rhs; rw [e]
      rw [cmpB_six _ _ (by omega) (by omega)] at h0
      rcases cmpI_cases (((1099511627776 - q).toNat : Nat) : Int) (((1099511627776 - q').toNat : Nat) : Int) with ⟨a1, a2⟩ | ⟨a1, a2, a3⟩ | ⟨a1, a2⟩ <;> omega
    rw [cmpB_tail (six (1099511627776 - q).toNat) (six (1099511627776 - q').toNat) _ _ rfl hne, cmpB_six _ _ (by omega) (by omega)]
    rcases cmpI_cases q' q with ⟨a1, a2⟩ | ⟨a1, a2, a3⟩ | ⟨a1, a2⟩
    · rw [a2, orI_assoc0, if_neg (by omega)]; unfold cmpI; rw [if_pos (by omega)]
    · rw [a3, orI_assoc0, if_neg (by omega)]; unfold cmpI; rw [if_neg (by omega), if_pos (by omega)]
    · omega
/-- THE ORDER OF KEYS. -/
def cmpK (u : List UInt8) (q k : Int) (u' : List UInt8) (q' k' : Int) : Int := orI (cmpB u u') (cmpI q' q) (cmpI k' k)
theorem cmpK_same (u : List UInt8) (q k q' k' : Int) : cmpK u q k u q' k' = orI (cmpI q' q) (cmpI k' k) 0 := by
  unfold cmpK
  rw [cmpB_self, orI_assoc0]
  unfold orI
  rw [if_pos rfl]
theorem cmpK_other {u u' : List UInt8} (h : u ≠ u') (q k q' k' : Int) : cmpK u q k u' q' k' = cmpB u u' := by
  unfold cmpK orI
  rw [if_neg (fun e => h (cmpB_zero _ _ e))]
/-- KEYS STAND IN THE ORDER OF THEIR BYTES. -/
theorem cmpB_encK (u : List UInt8) (q k : Int) (u' : List UInt8) (q' k' : Int) (n n' : Int) (h : Rt n q k) (h' : Rt n' q' k') : cmpB (encK u q k) (encK u' q' k') = cmpK u q k u' q' k' := by
  have e := cmpB_escs u u' (tailB q k) (tailB q' k')
  unfold encK
  simp only [List.cons_append, List.nil_append]
  rw [e]
  by_cases hu : u = u'
  · subst hu
    rw [if_pos rfl, cmpK_same, cmpB_tailB n q k n' q' k' h h']
  · rw [if_neg hu, cmpK_other hu]
theorem tailB_ne (n n' q k q' k' : Int) (h : Rt n q k) (h' : Rt n' q' k') (hne : ¬ (q = q' ∧ k = k')) : tailB q k ≠ tailB q' k' := by
  intro e
  have h0 := cmpB_self (tailB q k)
  conv at h0 => lhs; rhs; rw [e]
  rw [cmpB_tailB n q k n' q' k' h h', orI_assoc0] at h0
  rcases cmpI_cases q' q with ⟨a1, a2⟩ | ⟨a1, a2, a3⟩ | ⟨a1, a2⟩
  · rw [a2, if_neg (by omega)] at h0; omega
  · rw [a3, if_neg (by omega)] at h0; omega
  · rw [a2, if_pos rfl] at h0
    rcases cmpI_cases k' k with ⟨b1, b2⟩ | ⟨b1, b2, b3⟩ | ⟨b1, b2⟩
    · omega
    · omega
    · exact hne ⟨a1.symm, b1.symm⟩
/-- Nothing behind keys' bytes turns the order of two keys that differ. -/
theorem cmpB_encK_tail (u : List UInt8) (q k : Int) (u' : List UInt8) (q' k' : Int) (n n' : Int) (h : Rt n q k) (h' : Rt n' q' k') (hne : ¬ (u = u' ∧ q = q' ∧ k = k')) (s t : List UInt8) :
    cmpB (encK u q k ++ s) (encK u' q' k' ++ t) = cmpK u q k u' q' k' := by
  have e := cmpB_escs u u' (tailB q k ++ s) (tailB q' k' ++ t)
  unfold encK
  simp only [List.cons_append, List.nil_append, List.append_assoc]
  rw [e]
  by_cases hu : u = u'
  · subst hu
    rw [if_pos rfl, cmpK_same, cmpB_tail (tailB q k) (tailB q' k') _ _ rfl (tailB_ne n n' q k q' k' h h' (fun e => hne ⟨rfl, e.1, e.2⟩)), cmpB_tailB n q k n' q' k' h h']
  · rw [if_neg hu, cmpK_other hu]
theorem cmpI_neg (x y : Int) : cmpI y x = - cmpI x y := by
  rcases cmpI_cases x y with ⟨a1, a2⟩ | ⟨a1, a2, a3⟩ | ⟨a1, a2⟩
  · rw [a2]; unfold cmpI; rw [if_neg (by omega), if_pos (by omega)]; rfl
  · rw [a3]; unfold cmpI; rw [if_pos (by omega)]
  · rw [a2]; unfold cmpI; rw [if_neg (by omega), if_neg (by omega)]; rfl
theorem cmpK_neg (u : List UInt8) (q k : Int) (u' : List UInt8) (q' k' : Int) : cmpK u' q' k' u q k = - cmpK u q k u' q' k' := by
  unfold cmpK orI
  rw [cmpB_neg u u', cmpI_neg q' q, cmpI_neg k' k]
  generalize cmpB u u' = x
  generalize cmpI q' q = y
  generalize cmpI k' k = z
  repeat' split
  all_goals omega
theorem cmpK_zero (u : List UInt8) (q k : Int) (u' : List UInt8) (q' k' : Int) : cmpK u q k u' q' k' = 0 ↔ (u = u' ∧ q = q' ∧ k = k') := by
  constructor
  · intro h
    unfold cmpK orI at h
    split at h
    · rename_i h1
      split at h
      · rename_i h2
        refine ⟨cmpB_zero _ _ h1, ?_, ?_⟩
        · rcases cmpI_cases q' q with ⟨a1, a2⟩ | ⟨a1, a2, a3⟩ | ⟨a1, a2⟩ <;> omega
        · rcases cmpI_cases k' k with ⟨a1, a2⟩ | ⟨a1, a2, a3⟩ | ⟨a1, a2⟩ <;> omega
      · omega
    · omega
  · rintro ⟨rfl, rfl, rfl⟩
    rw [cmpK_same, orI_assoc0]
    have e1 : ∀ x : Int, cmpI x x = 0 := fun x => by unfold cmpI; rw [if_neg (by omega), if_neg (by omega)]
    rw [e1, e1]; rfl
theorem cmpK_range (u : List UInt8) (q k : Int) (u' : List UInt8) (q' k' : Int) : cmpK u q k u' q' k' = -1 ∨ cmpK u q k u' q' k' = 0 ∨ cmpK u q k u' q' k' = 1 := by
  unfold cmpK orI
  have h1 := cmpB_range u u'
  rcases cmpI_cases q' q with ⟨a1, a2⟩ | ⟨a1, a2, a3⟩ | ⟨a1, a2⟩ <;> rcases cmpI_cases k' k with ⟨b1, b2⟩ | ⟨b1, b2, b3⟩ | ⟨b1, b2⟩ <;> (repeat' split) <;> omega
theorem cmpK_trans (u : List UInt8) (q k : Int) (u' : List UInt8) (q' k' : Int) (u'' : List UInt8) (q'' k'' : Int) (h1 : cmpK u q k u' q' k' ≤ 0) (h2 : cmpK u' q' k' u'' q'' k'' ≤ 0) : cmpK u q k u'' q'' k'' ≤ 0 := by
  unfold cmpK orI at h1 h2 ⊢
  have r1 := cmpB_range u u'
  have r2 := cmpB_range u' u''
  have r3 := cmpB_range u u''
  have hle1 : cmpB u u' ≤ 0 := by
    split at h1 <;> omega
  have hle2 : cmpB u' u'' ≤ 0 := by
    split at h2 <;> omega
  obtain ⟨t1, t2⟩ := cmpB_trans u u' u'' hle1 hle2
  by_cases hz : cmpB u u'' = 0
  · obtain ⟨z1, z2⟩ := t2 hz
    rw [if_pos hz]
    rw [if_pos z1] at h1
    rw [if_pos z2] at h2
    rcases cmpI_cases q' q with ⟨a1, a2⟩ | ⟨a1, a2, a3⟩ | ⟨a1, a2⟩ <;> rcases cmpI_cases q'' q' with ⟨b1, b2⟩ | ⟨b1, b2, b3⟩ | ⟨b1, b2⟩ <;> rcases cmpI_cases q'' q with ⟨c1, c2⟩ | ⟨c1, c2, c3⟩ | ⟨c1, c2⟩ <;>
      rcases cmpI_cases k' k with ⟨d1, d2⟩ | ⟨d1, d2, d3⟩ | ⟨d1, d2⟩ <;> rcases cmpI_cases k'' k' with ⟨e1, e2⟩ | ⟨e1, e2, e3⟩ | ⟨e1, e2⟩ <;> rcases cmpI_cases k'' k with ⟨f1, f2⟩ | ⟨f1, f2, f3⟩ | ⟨f1, f2⟩ <;> first | omega | (split at h1 <;> split at h2 <;> split <;> omega)
  · rw [if_neg hz]; omega

/-! ### How bytes are taken apart. -/
def cutS : List UInt8 → List UInt8 → Option (List UInt8 × List UInt8)
  | _, [] => none
  | _, [_] => none
  | u, c :: d :: r => if c = 0 then (if d = 1 then some (u, r) else if d = 255 then cutS (u ++ [0]) r else none) else cutS (u ++ [c]) (d :: r)

theorem cutS_end (u : List UInt8) (l : List UInt8) (i : Nat) (h : l.length ≤ i) : cutS u (l.drop i) = none := by rw [List.drop_of_length_le h]; rfl
theorem drop2 (l : List UInt8) (i : Nat) (h : i + 1 < l.length) : l.drop i = l.getD i 0 :: l.getD (i + 1) 0 :: l.drop (i + 2) := by
  rw [List.drop_eq_getElem_cons (by omega : i < l.length), List.drop_eq_getElem_cons h]
  simp [List.getD, h, (by omega : i < l.length)]
theorem drop1 (l : List UInt8) (i : Nat) (h : i < l.length) : l.drop i = l.getD i 0 :: l.drop (i + 1) := by
  rw [List.drop_eq_getElem_cons h]
  simp [List.getD, h]
theorem cutS_other (u l : List UInt8) (i : Nat) (h : i < l.length) (hc : l.getD i 0 ≠ 0) : cutS u (l.drop i) = cutS (u ++ [l.getD i 0]) (l.drop (i + 1)) := by
  rcases Nat.lt_or_ge (i + 1) l.length with h1 | h1
  · rw [drop2 l i h1, drop1 l (i + 1) h1]
    show (if l.getD i 0 = 0 then _ else _) = _
    rw [if_neg hc]
  · rw [drop1 l i h, List.drop_of_length_le h1]
    rfl
theorem cutS_last (u l : List UInt8) (i : Nat) (h : i + 1 = l.length) : cutS u (l.drop i) = none := by
  rw [drop1 l i (by omega), List.drop_of_length_le (by omega)]
  rfl
theorem cutS_zero (u l : List UInt8) (i : Nat) (h : i + 1 < l.length) (hc : l.getD i 0 = 0) :
    cutS u (l.drop i) = if l.getD (i + 1) 0 = 1 then some (u, l.drop (i + 2)) else if l.getD (i + 1) 0 = 255 then cutS (u ++ [0]) (l.drop (i + 2)) else none := by
  rw [drop2 l i h]
  show (if l.getD i 0 = 0 then _ else _) = _
  rw [if_pos hc]
theorem cutS_escs : ∀ (v u x : List UInt8), cutS u (escs v ++ (0 :: 1 :: x)) = some (u ++ v, x)
  | [], u, x => by
    rw [escs_nil, List.nil_append, List.append_nil]
    rfl
  | c :: v, u, x => by
    have ih := fun p => cutS_escs v p x
    by_cases h : c = 0
    · subst h
      rw [escs_zero]
      show cutS (u ++ [0]) (escs v ++ (0 :: 1 :: x)) = _
      rw [ih]
      simp
    · rw [escs_other h]
      obtain ⟨d, r, hr⟩ : ∃ d r, escs v ++ (0 :: 1 :: x) = d :: r := by
        cases hv : escs v ++ (0 :: 1 :: x) with
        | nil => simp at hv
        | cons d r => exact ⟨d, r, rfl⟩
      have ih' := ih (u ++ [c])
      rw [List.cons_append]
      rw [hr] at ih' ⊢
      show (if c = 0 then _ else cutS (u ++ [c]) (d :: r)) = _
      rw [if_neg h, ih']
      simp
theorem cutS_some : ∀ (n : Nat) (l u w x : List UInt8), l.length ≤ n → cutS u l = some (w, x) → ∃ v, w = u ++ v ∧ l = escs v ++ (0 :: 1 :: x)
  | _, [], _, _, _, _, h => by cases h
  | _, [_], _, _, _, _, h => by cases h
  | 0, _ :: _ :: _, _, _, _, hn, _ => by simp at hn
  | n + 1, c :: d :: r, u, w, x, hn, h => by
    have h : (if c = 0 then (if d = 1 then some (u, r) else if d = 255 then cutS (u ++ [0]) r else none) else cutS (u ++ [c]) (d :: r)) = some (w, x) := h
    simp only [List.length_cons] at hn
    by_cases hc : c = 0
    · subst hc
      rw [if_pos rfl] at h
      by_cases hd : d = 1
      · subst hd
        rw [if_pos rfl] at h
        simp only [Option.some.injEq, Prod.mk.injEq] at h
        obtain ⟨rfl, rfl⟩ := h
        exact ⟨[], by simp, rfl⟩
      · rw [if_neg hd] at h
        by_cases hd' : d = 255
        · subst hd'
          rw [if_pos rfl] at h
          obtain ⟨v, rfl, rfl⟩ := cutS_some n r _ _ _ (by omega) h
          exact ⟨0 :: v, by simp, rfl⟩
        · rw [if_neg hd'] at h; cases h
    · rw [if_neg hc] at h
      obtain ⟨v, rfl, e⟩ := cutS_some n (d :: r) _ _ _ (by simp only [List.length_cons]; omega) h
      refine ⟨c :: v, by simp, ?_⟩
      rw [escs_other hc, List.cons_append, ← e]
def val6 (t : List UInt8) : Nat := (t.take 6).foldl (fun n c => n * 256 + c.toNat) 0
def seqOf (t : List UInt8) : Int := 1099511627776 - (val6 t : Int)
def kindOf (t : List UInt8) : Int := 255 - ((t.getD 6 0).toNat : Int)
def parseS (l : List UInt8) : Option (List UInt8 × Int × Int) := match cutS [] l with
  | none => none
  | some (u, t) => if t.length = 7 ∧ Rt u.length (seqOf t) (kindOf t) then some (u, seqOf t, kindOf t) else none

theorem val6_tail (q k : Int) (h0 : 0 ≤ q) (h1 : q ≤ 1099511627776) : (val6 (tailB q k) : Int) = 1099511627776 - q := by
  have e : val6 (tailB q k) = ((((((0 * 256 + (1099511627776 - q).toNat / 1099511627776 % 256) * 256 + (1099511627776 - q).toNat / 4294967296 % 256) * 256 + (1099511627776 - q).toNat / 16777216 % 256) * 256 + (1099511627776 - q).toNat / 65536 % 256) * 256 + (1099511627776 - q).toNat / 256 % 256) * 256 + (1099511627776 - q).toNat % 256) := by
    simp [val6, tailB, six]
  rw [e]
  omega
/-- A right key is read from its bytes. -/
theorem parse_enc (u : List UInt8) (q k : Int) (h : Rt u.length q k) : parseS (encK u q k) = some (u, q, k) := by
  have h' := h
  obtain ⟨h1, h2, h3, h4, h5, h6⟩ := h
  have e1 : seqOf (tailB q k) = q := by unfold seqOf; rw [val6_tail q k h3 h4]; omega
  have e2 : kindOf (tailB q k) = k := by
    have : (tailB q k).getD 6 0 = UInt8.ofNat (255 - k).toNat := rfl
    unfold kindOf
    rw [this, toNat_ofNat8]
    omega
  have e3 : cutS [] (encK u q k) = some (u, tailB q k) := by
    have := cutS_escs u [] (tailB q k)
    simpa [encK] using this
  unfold parseS
  rw [e3]
  simp only [e1, e2]
  rw [if_pos ⟨rfl, h'⟩]
/-- What is read has just these bytes. -/
theorem parse_some (l u : List UInt8) (q k : Int) (h : parseS l = some (u, q, k)) : Rt u.length q k ∧ encK u q k = l := by
  unfold parseS at h
  cases hc : cutS [] l with
  | none => rw [hc] at h; cases h
  | some p =>
    obtain ⟨v, t⟩ := p
    rw [hc] at h
    simp only at h
    split at h
    · rename_i hr
      obtain ⟨hlen, hr⟩ := hr
      simp only [Option.some.injEq, Prod.mk.injEq] at h
      obtain ⟨rfl, rfl, rfl⟩ := h
      refine ⟨hr, ?_⟩
      obtain ⟨v', rfl, rfl⟩ := cutS_some l.length l [] v t (Nat.le_refl _) hc
      unfold encK
      congr 1
      show 0 :: 1 :: tailB (seqOf t) (kindOf t) = _
      congr 2
      obtain ⟨_, _, r1, r2, r3, r4⟩ := hr
      match t, hlen with
      | [a, b, c, d, e, f, g], _ =>
        have ea := a.toNat_lt
        have eb := b.toNat_lt
        have ec := c.toNat_lt
        have ed := d.toNat_lt
        have ee := e.toNat_lt
        have ef := f.toNat_lt
        have eg := g.toNat_lt
        have ev : (1099511627776 - seqOf [a, b, c, d, e, f, g]).toNat = ((((((0 * 256 + a.toNat) * 256 + b.toNat) * 256 + c.toNat) * 256 + d.toNat) * 256 + e.toNat) * 256 + f.toNat) := by
          unfold seqOf
          have : val6 [a, b, c, d, e, f, g] = ((((((0 * 256 + a.toNat) * 256 + b.toNat) * 256 + c.toNat) * 256 + d.toNat) * 256 + e.toNat) * 256 + f.toNat) := rfl
          rw [this]
          omega
        have ek : (255 - kindOf [a, b, c, d, e, f, g]).toNat = g.toNat := by
          have : ([a, b, c, d, e, f, g] : List UInt8).getD 6 0 = g := rfl
          unfold kindOf
          rw [this]
          omega
        unfold tailB six
        rw [ev, ek]
        have q0 : ∀ (x : UInt8) (m : Nat), m % 256 = x.toNat → UInt8.ofNat m = x := fun x m hm => by
          apply UInt8.toNat_inj.1
          rw [toNat_ofNat8, hm]
        simp only [List.cons_append, List.nil_append, List.cons.injEq, and_true]
        refine ⟨q0 a _ ?_, q0 b _ ?_, q0 c _ ?_, q0 d _ ?_, q0 e _ ?_, q0 f _ ?_, q0 g _ ?_⟩ <;> omega
    · cases h
end Go.Proofs.YtihahckjcedceaaDoor
