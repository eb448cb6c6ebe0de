/-
  Texts of layer 13 and of what it stands on, one behind the other.
-/
import Derived.Test.YtlobnbbndkhcbaaGreatDoorMg09
import Derived.Test.YtlobnbbndkhcbaaGreatDoorMg08
import Derived.Test.YtlobnbbndkhcbaaGreatDoorMg06
import Derived.Test.YtlobnbbndkhcbaaGreatDoorMg05

/- Layer 12, the program's own: contracts of Shared and rightEvery; of package sum's Word and Parse; of bytes.Equal. -/
namespace Go.Proofs.YtlobnbbndkhcbaaGreatDoor
set_option linter.unusedVariables false
open Go.RowKit

set_option maxRecDepth 20000 in
set_option maxHeartbeats 1600000 in
theorem bshared_c (s t : ByteArray) (hs : s.size ≤ maxLen) (ht : t.size ≤ maxLen) (w : World) :
    Calls Tryz.prog 121 #[.string s, .string t] w (PlainRet (.int .i64 (shL (bs s) (bs t) : Int)) w) := by
  unfold maxLen at hs ht
  obtain ⟨m, hm⟩ : ∃ m, min s.size t.size = m := ⟨_, rfl⟩
  have hmi : min (s.size : Int) (t.size : Int) = (m : Int) := by omega
  have hms : m ≤ s.size := by omega
  have hmt : m ≤ t.size := by omega
  have HM := Lib.hid hm
  clear hm
  go_enter Tryz.func121, Tryz.ntmps121
  go_wp2_with fail
  go_loopw [5] (fun i wr => ∃ k : Nat, i = .int .i64 k ∧ k ≤ m ∧ Fr No w wr ∧ shL (bs s) (bs t) = k + shL ((bs s).drop k) ((bs t).drop k)) (fun i _ => m - (intOf i).toNat)
  case atStart => exact ⟨0, rfl, Nat.zero_le _, Fr.refl _ _, by simp⟩
  case round =>
    obtain ⟨k, rfl, hk, hfr, he⟩ := hrel
    have HF := Lib.hid hfr
    have HE := Lib.hid he
    clear hfr he
    by_cases h1 : k < m
    · have hk1 : k < s.size := by omega
      have hk2 : k < t.size := by omega
      have e1 : (bs s).getD k 0 = s[k] := ba_getD s k hk1
      have e2 : (bs t).getD k 0 = t[k] := ba_getD t k hk2
      have ST := sh_step (bs s) (bs t) k (by rw [bs_length]; exact hk1) (by rw [bs_length]; exact hk2) HE.out
      rw [e1, e2] at ST
      have HS := Lib.hid ST
      clear ST e1 e2
      have d0 : decide ((k : Int) < (m : Int)) = true := by rw [decide_eq_true_eq]; omega
      by_cases h3 : s[k] = t[k]
      · have HR := Lib.hid (HS.out.2 h3)
        have h4 : ((s[k].toNat : Int) == (t[k].toNat : Int)) = true := by rw [h3]; simp
        go_wp2_with fail
        go_quiet (fail)
        go_wp2_with fail
        go_roundw
        case rel => exact ⟨k + 1, by simp, by omega, HF.out.drewN _, HR.out⟩
        case measure => simp [intOf]; omega
      · have HR := Lib.hid (HS.out.1 h3)
        have h4 : ((s[k].toNat : Int) == (t[k].toNat : Int)) = false := by
          rw [beq_eq_false_iff_ne]
          exact fun h => h3 (UInt8.toNat_inj.1 (by omega))
        go_wp2_with fail
        go_quiet (fail)
        go_wp2_with fail
        go_ret
        exact ⟨by rw [HR.out]; rfl, HF.out.drewN _⟩
    · have hkm : k = m := by omega
      have HR := Lib.hid (sh_end (bs s) (bs t) k (by rw [bs_length, bs_length]; have := HM.out; omega) HE.out)
      have d0 : decide ((k : Int) < (m : Int)) = false := by rw [decide_eq_false_iff_not]; omega
      go_wp2_with fail
      go_quiet (fail)
      go_wp2_with fail
      go_ret
      exact ⟨by rw [HR.out]; rfl, HF.out.drewN _⟩
def rightE (e : Int) : Bool := decide (1 ≤ e) && decide (e ≤ 64)
set_option maxHeartbeats 400000 in
theorem right_c (e : Int) (w : World) : Calls Tryz.prog 125 #[.int .i64 e] w fun en w' => en = .returned (.bool (rightE e)) ∧ w = w' := by
  unfold rightE
  by_cases h1 : 1 ≤ e
  · by_cases h2 : e ≤ 64
    · have d1 : decide (e ≥ 1) = true := decide_eq_true h1
      have d2 : decide (e ≤ 64) = true := decide_eq_true h2
      rw [decide_eq_true h1, d2]
      go_enter Tryz.func125, Tryz.ntmps125
      go_wp2_with fail
      go_ret
      exact ⟨rfl, rfl⟩
    · have d1 : decide (e ≥ 1) = true := decide_eq_true h1
      have d2 : decide (e ≤ 64) = false := decide_eq_false h2
      rw [decide_eq_true h1, d2]
      go_enter Tryz.func125, Tryz.ntmps125
      go_wp2_with fail
      go_ret
      exact ⟨rfl, rfl⟩
  · have d1 : decide (e ≥ 1) = false := decide_eq_false h1
    rw [decide_eq_false h1]
    go_enter Tryz.func125, Tryz.ntmps125
    go_wp2_with fail
    go_ret
    exact ⟨rfl, rfl⟩

/-! ### Words. -/
theorem word4_cellsB (c : Nat) (h1 : c < 4294967296) : ((word4 c).map byt).toArray = #[Value.int .u8 ((c : Int) / 16777216), Value.int .u8 ((c : Int) / 65536 % 256), Value.int .u8 ((c : Int) / 256 % 256), Value.int .u8 ((c : Int) % 256)] := by
  have e : ∀ x : Nat, x < 256 → byt (UInt8.ofNat x) = .int .u8 (x : Int) := fun x hx => by
    show Value.int .u8 _ = _
    rw [toNat_ofNat hx]
  unfold word4
  simp only [List.map_cons, List.map_nil]
  rw [e _ (by omega), e _ (by omega), e _ (by omega), e _ (by omega)]
  simp
theorem word4_mod (n : Nat) : word4 (n % 4294967296) = word4 n := by
  have e : ∀ a b : Nat, a % 256 = b % 256 → UInt8.ofNat a = UInt8.ofNat b := fun a b h => by
    apply UInt8.toNat_inj.1
    rw [UInt8.toNat_ofNat', UInt8.toNat_ofNat']
    exact h
  unfold word4
  rw [e (n % 4294967296 / 16777216) (n / 16777216) (by omega), show n % 4294967296 / 65536 % 256 = n / 65536 % 256 by omega, show n % 4294967296 / 256 % 256 = n / 256 % 256 by omega, show n % 4294967296 % 256 = n % 256 by omega]
set_option maxHeartbeats 400000 in
theorem word_b (c : Nat) (h1 : c < 4294967296) (w : World) : Calls Tryz.prog 108 #[.int .u32 (c : Int)] w (NewRow (word4 c) w) := by
  have E := Lib.hid (word4_cellsB c h1)
  have R := Lib.hid (row_new w (word4 c) (by rw [word4_len]; simp [maxLen]))
  have h2 : (c : Int) / 16777216 % 256 = (c : Int) / 16777216 := by omega
  have F := Lib.hid ((Fr.refl No w).alloc (.cells ((word4 c).map byt).toArray 5))
  go_enter Tryz.func108, Tryz.ntmps108
  go_wp2_with fail
  go_ret
  have R := R.out
  have F := F.out
  rw [E.out] at R F
  exact ⟨_, rfl, R, F⟩
def wdB (x y z u : UInt8) : Nat := x.toNat * 16777216 + y.toNat * 65536 + z.toNat * 256 + u.toNat
theorem orB_low (k x y : Nat) (hx : x * 2 ^ k < 4294967296) (hy : y < 2 ^ k) (hk : 2 ^ k ≤ 4294967296) : bits .or .u32 ((x * 2 ^ k : Nat) : Int) (y : Int) = ((x * 2 ^ k + y : Nat) : Int) := by
  have e : x * 2 ^ k ||| y = x * 2 ^ k + y := by
    rw [Nat.mul_comm, ← Nat.two_pow_add_eq_or_of_lt hy]
  have h2 : x * 2 ^ k ||| y < 2 ^ 32 := Nat.or_lt_two_pow (by omega) (by omega)
  show IntKind.u32.wrap ((BitVec.ofInt 32 ((x * 2 ^ k : Nat) : Int) ||| BitVec.ofInt 32 (y : Int)).toNat : Int) = _
  rw [BitVec.toNat_or, BitVec.ofInt_natCast, BitVec.ofInt_natCast, BitVec.toNat_ofNat, BitVec.toNat_ofNat, Nat.mod_eq_of_lt (by omega), Nat.mod_eq_of_lt (by omega), e]
  rw [e] at h2
  obtain ⟨q, hq⟩ : ∃ q, x * 2 ^ k + y = q := ⟨_, rfl⟩
  rw [hq] at h2 ⊢
  simp [IntKind.wrap, IntKind.signed, IntKind.bits]
  omega
theorem orB_word (x y z u : UInt8) :
    bits .or .u32 (bits .or .u32 (bits .or .u32 ((x.toNat : Int) * 16777216) ((y.toNat : Int) * 65536)) ((z.toNat : Int) * 256)) (u.toNat : Int) = ((wdB x y z u : Nat) : Int) := by
  have x0 := x.toNat_lt
  have y0 := y.toNat_lt
  have z0 := z.toNat_lt
  have u0 := u.toNat_lt
  have e1 : bits .or .u32 ((x.toNat : Int) * 16777216) ((y.toNat : Int) * 65536) = (((x.toNat * 256 + y.toNat) * 2 ^ 16 : Nat) : Int) := by
    have h := orB_low 24 x.toNat (y.toNat * 65536) (by omega) (by omega) (by omega)
    have a1 : (x.toNat : Int) * 16777216 = ((x.toNat * 2 ^ 24 : Nat) : Int) := by omega
    have a2 : (y.toNat : Int) * 65536 = ((y.toNat * 65536 : Nat) : Int) := by omega
    rw [a1, a2, h]
    omega
  have e2 : bits .or .u32 (((x.toNat * 256 + y.toNat) * 2 ^ 16 : Nat) : Int) ((z.toNat : Int) * 256) = ((((x.toNat * 256 + y.toNat) * 256 + z.toNat) * 2 ^ 8 : Nat) : Int) := by
    have h := orB_low 16 (x.toNat * 256 + y.toNat) (z.toNat * 256) (by omega) (by omega) (by omega)
    have a2 : (z.toNat : Int) * 256 = ((z.toNat * 256 : Nat) : Int) := by omega
    rw [a2, h]
    omega
  have e3 : bits .or .u32 ((((x.toNat * 256 + y.toNat) * 256 + z.toNat) * 2 ^ 8 : Nat) : Int) (u.toNat : Int) = ((wdB x y z u : Nat) : Int) := by
    have h := orB_low 8 ((x.toNat * 256 + y.toNat) * 256 + z.toNat) u.toNat (by omega) (by omega) (by omega)
    rw [h]
    unfold wdB
    omega
  rw [e1, e2, e3]
theorem wdB_word4 {n : Nat} (h : n < 4294967296) {x y z u : UInt8} (e : word4 n = [x, y, z, u]) : wdB x y z u = n := by
  unfold word4 at e
  simp only [List.cons.injEq, and_true] at e
  obtain ⟨rfl, rfl, rfl, rfl⟩ := e
  unfold wdB
  rw [toNat_ofNat (by omega), toNat_ofNat (by omega), toNat_ofNat (by omega), toNat_ofNat (by omega)]
  omega
theorem wdB_lt (x y z u : UInt8) : wdB x y z u < 4294967296 := by
  have x0 := x.toNat_lt
  have y0 := y.toNat_lt
  have z0 := z.toNat_lt
  have u0 := u.toNat_lt
  unfold wdB
  omega
set_option maxHeartbeats 400000 in
theorem parse_b (a : Option Addr) (cap : Nat) (x y z u : UInt8) (w : World) (hr : Rd w a [x, y, z, u]) :
    Calls Tryz.prog 148 #[.slice a 4 cap] w fun e w' => e = .returned (.tuple #[.int .u32 (wdB x y z u : Int), .int .i64 0]) ∧ Fr No w w' := by
  obtain ⟨b, o, rfl, hc⟩ := hr (by simp)
  have c0 := hc 0 (by simp)
  have c1 := hc 1 (by simp)
  have c2 := hc 2 (by simp)
  have c3 := hc 3 (by simp)
  simp at c0 c1 c2 c3
  have x0 := x.toNat_lt
  have y0 := y.toNat_lt
  have z0 := z.toNat_lt
  have u0 := u.toNat_lt
  have E := Lib.hid (orB_word x y z u)
  clear hc hr
  go_enter Tryz.func148, Tryz.ntmps148
  go_wp2_with fail
  go_quiet (fail)
  go_wp2_with fail
  go_ret2
  refine ⟨?_, (Fr.refl _ _).drewN _⟩
  rw [← E.out]
  rfl
set_option maxHeartbeats 400000 in
theorem equalB_c (a a' : Option Addr) (len cap len' cap' : Nat) (l l' : List UInt8) (w : World) (hl : l.length = len) (hl' : l'.length = len') (hr : Rd w a l) (hr' : Rd w a' l') :
    Calls Tryz.prog 53 #[.slice a len cap, .slice a' len' cap'] w fun e w' => e = .returned (.bool (l == l')) ∧ w = w' := by
  have h1 := conv_rd w a len cap l hl hr
  have h2 := conv_rd w a' len' cap' l' hl' hr'
  have t1 := strOf_toList l
  have t2 := strOf_toList l'
  clear hl hl' hr hr'
  go_enter Tryz.func53, Tryz.ntmps53
  go_wp2_with fail
  go_ret
  exact ⟨rfl, rfl⟩
end Go.Proofs.YtlobnbbndkhcbaaGreatDoor

/- Layer 12, the program's own: a block in memory (Bk); Len, Every; bytes. -/
namespace Go.Proofs.YtlobnbbndkhcbaaGreatDoor
set_option linter.unusedVariables false
open Go.RowKit

def nI (l : List Nat) : List Int := l.map Int.ofNat
theorem nI_len (l : List Nat) : (nI l).length = l.length := by simp [nI]
theorem nI_get (l : List Nat) (i : Nat) : (nI l).getD i 0 = ((l.getD i 0 : Nat) : Int) := by
  unfold nI
  simp only [List.getD_eq_getElem?_getD, List.getElem?_map]
  cases l[i]? <;> rfl
/-- Numbers that are read, within S. -/
def InI (w : World) (S : Nat → Prop) (a : Option Addr) (l : List Nat) : Prop := 0 < l.length → ∃ b o, S b ∧ a = some ⟨b, o, none⟩ ∧ ∀ i, i < l.length → w.cell? ⟨b, o + i, none⟩ = some (.int .i64 (l.getD i 0 : Nat))
theorem InI.keep {w w' : World} {S T : Nat → Prop} {a : Option Addr} {l : List Nat} (h : InI w S a l) (f : Fr T w w') (hn : ∀ k, S k → ¬ T k) : InI w' S a l := fun hl => by
  obtain ⟨b, o, hb, ha, hc⟩ := h hl
  exact ⟨b, o, hb, ha, fun i hi => f.cell (hc i hi) (hn b hb)⟩
theorem RowI.inI {w : World} {S : Nat → Prop} {v : Value} {l : List Nat} (h : RowI w S v (nI l)) : ∃ a c, v = .slice a l.length c ∧ l.length ≤ c ∧ c ≤ maxLen ∧ InI w S a l := by
  obtain ⟨a, c, rfl, h1, h2, h3⟩ := h.form
  rw [nI_len] at h1 h3 ⊢
  refine ⟨a, c, rfl, h1, h2, fun hl => ?_⟩
  obtain ⟨b, o, hb, ha, hc⟩ := h3 hl
  exact ⟨b, o, hb, ha, fun i hi => by rw [hc i hi, nI_get]⟩
/-- What a block's numbers may be. -/
structure Fit (l : List Pr) (e : Nat) : Prop where
  e1 : 1 ≤ e
  e2 : e ≤ 64
  ord : ordP l
  low : Low 100000 l
  len : l.length ≤ 40000
theorem Fit.pairs {l : List Pr} {e : Nat} (h : Fit l e) (k : Nat) (hk : k ≤ l.length) : (pairsB e l k).length ≤ 10000000000 := by
  have h1 := pairsB_len e l 100000 (by omega) h.low k hk
  have h2 := h.len
  have h3 : k * (27 + 2 * 100000) ≤ 40000 * (27 + 2 * 100000) := Nat.mul_le_mul_right _ (by omega)
  omega
theorem Fit.starts {l : List Pr} {e : Nat} (h : Fit l e) : (startsN e l l.length).length ≤ 40000 := Nat.le_trans (startsN_len e l l.length) h.len
/-- A BLOCK IN MEMORY, its bytes and its restarts' row. -/
structure BkAt (w : World) (x : Nat) (F : Nat → Prop) (p : ByteArray) (a : Option Addr) (c : Nat) (l : List Pr) (e : Nat) : Prop where
  hd : At w x 183 #[.string p, .slice a (startsN e l l.length).length c, .int .i64 (l.length : Int), .int .i64 (e : Int)]
  hp : bs p = pairsB e l l.length
  hc : (startsN e l l.length).length ≤ c ∧ c ≤ maxLen
  hi : InI w F a (startsN e l l.length)
  ft : Fit l e
def Bk (w : World) (x : Nat) (F : Nat → Prop) (l : List Pr) (e : Nat) : Prop := F x ∧ (∀ k, F k → k < w.heap.size) ∧ ∃ p a c, BkAt w x F p a c l e
theorem BkAt.keep {w w' : World} {x : Nat} {F T : Nat → Prop} {p : ByteArray} {a : Option Addr} {c : Nat} {l : List Pr} {e : Nat} (h : BkAt w x F p a c l e) (f : Fr T w w') (hx : ¬ T x) (hn : ∀ k, F k → ¬ T k) : BkAt w' x F p a c l e :=
  ⟨h.hd.keep f hx, h.hp, h.hc, h.hi.keep f hn, h.ft⟩
theorem Bk.keep {w w' : World} {x : Nat} {F T : Nat → Prop} {l : List Pr} {e : Nat} (h : Bk w x F l e) (f : Fr T w w') (hn : ∀ k, F k → ¬ T k) : Bk w' x F l e := by
  obtain ⟨h1, h2, p, a, c, h3⟩ := h
  exact ⟨h1, fun k hk => Nat.lt_of_lt_of_le (h2 k hk) f.size, p, a, c, h3.keep f (hn x h1) hn⟩
theorem BkAt.size {w : World} {x : Nat} {F : Nat → Prop} {p : ByteArray} {a : Option Addr} {c : Nat} {l : List Pr} {e : Nat} (h : BkAt w x F p a c l e) : p.size ≤ 10000000000 := by
  rw [← bs_length, h.hp]
  exact h.ft.pairs _ (Nat.le_refl _)
set_option maxHeartbeats 400000 in
theorem blen_c {w : World} {x : Nat} {F : Nat → Prop} {l : List Pr} {e : Nat} (h : Bk w x F l e) : Calls Tryz.prog 113 #[.pointer (some ⟨x, 0, none⟩)] w (PlainRet (.int .i64 (l.length : Int)) w) := by
  obtain ⟨_, _, p, a, c, h⟩ := h
  have c0 : w.cell? ⟨x, 2, none⟩ = some (.int .i64 (l.length : Int)) := h.hd.cell 2
  clear h
  generalize l.length = n at *
  go_enter Tryz.func113, Tryz.ntmps113
  go_wp2_with fail
  go_ret
  exact ⟨rfl, Fr.refl _ _⟩
set_option maxHeartbeats 400000 in
theorem bevery_c {w : World} {x : Nat} {F : Nat → Prop} {l : List Pr} {e : Nat} (h : Bk w x F l e) : Calls Tryz.prog 114 #[.pointer (some ⟨x, 0, none⟩)] w (PlainRet (.int .i64 (e : Int)) w) := by
  obtain ⟨_, _, p, a, c, h⟩ := h
  have c0 : w.cell? ⟨x, 3, none⟩ = some (.int .i64 (e : Int)) := h.hd.cell 3
  clear h
  go_enter Tryz.func114, Tryz.ntmps114
  go_wp2_with fail
  go_ret
  exact ⟨rfl, Fr.refl _ _⟩
theorem take_nat (l : List Nat) (k : Nat) (h : k < l.length) : l.take (k + 1) = l.take k ++ [l.getD k 0] := by
  rw [List.take_add_one, List.getElem?_eq_getElem h]
  simp [List.getD, h]
theorem wordsB_step (l : List Nat) (k : Nat) (h : k < l.length) : wordsB (l.take (k + 1)) = wordsB (l.take k) ++ word4 (l.getD k 0) := by
  rw [take_nat l k h, wordsB_append, wordsB_one]
/-- Bytes of the call's own come back. -/
def NewZ (l : List UInt8) (w : World) (e : Ending) (w' : World) : Prop := ∃ v, e = .returned v ∧ RowZ w' (Gr No w w') v l ∧ Fr No w w'
set_option maxRecDepth 20000 in
set_option maxHeartbeats 3200000 in
theorem bbytes_c {w : World} {x : Nat} {F : Nat → Prop} {l : List Pr} {e : Nat} (h : Bk w x F l e) :
    Calls Tryz.prog 128 #[.pointer (some ⟨x, 0, none⟩)] w (NewZ (blockB e l) w) := by
  obtain ⟨_, _, p, a, c, h⟩ := h
  have c0 : w.cell? ⟨x, 0, none⟩ = some (.string p) := h.hd.cell 0
  have c1 : w.cell? ⟨x, 1, none⟩ = some (.slice a (startsN e l l.length).length c) := h.hd.cell 1
  have c3 : w.cell? ⟨x, 3, none⟩ = some (.int .i64 (e : Int)) := h.hd.cell 3
  have hps := h.size
  have hst := h.ft.starts
  have he2 := h.ft.e2
  have HB : Hid (blockB e l = ((bs p ++ wordsB (startsN e l l.length)) ++ word4 (startsN e l l.length).length) ++ [UInt8.ofNat e]) := Lib.hid (by rw [h.hp]; rfl)
  have HI := Lib.hid h.hi
  have HC3 := Lib.hid c3
  generalize startsN e l l.length = q at *
  obtain ⟨v0, w0, hrun, r0, f0⟩ := conv_strZ w p (by unfold maxLen; omega)
  obtain ⟨a0, n0, k0, rfl⟩ := r0.shape
  have HRUN := Lib.hid hrun
  have HR0 := Lib.hid r0
  have HF0 := Lib.hid f0
  have d1 := f0.cell c1 (fun h => h)
  have HBL : Hid (∀ k, k ≤ q.length → ((bs p ++ wordsB (q.take k)) ++ word4 0).length ≤ 20000000000) := Lib.hid fun k hk => by
    simp only [List.length_append, wordsB_len, List.length_take, bs_length, word4_len]
    omega
  have HE : Hid (((UInt8.ofNat e).toNat : Int) = (e : Int)) := Lib.hid (by rw [toNat_ofNat (by omega)])
  have hew : IntKind.u8.wrap (e : Int) = (e : Int) := by
    simp [IntKind.wrap, IntKind.signed, IntKind.bits]
    omega
  have HSTEP := Lib.hid (fun k (h : k < q.length) => wordsB_step q k h)
  have HTK := Lib.hid (List.take_length (l := q))
  obtain ⟨m, hm⟩ : ∃ m, q.length = m := ⟨_, rfl⟩
  rw [hm] at c1 d1 hst HBL HSTEP HTK
  have HM := Lib.hid hm
  have hmw : IntKind.u32.wrap (m : Int) = (m : Int) := by
    simp [IntKind.wrap, IntKind.signed, IntKind.bits]
    omega
  clear h hrun r0 f0 hm
  go_enter Tryz.func128, Tryz.ntmps128
  go_wp2_with fail
  rw [HRUN.out]
  go_wp2_with fail
  go_loopw [3, 16] (fun v i wr => ∃ (k : Nat) (a2 : Option Addr) (n2 k2 : Nat), v = .slice a2 n2 k2 ∧ i = .int .i64 k ∧ k ≤ m ∧ RowZ wr (Gr No w wr) (.slice a2 n2 k2) (bs p ++ wordsB (q.take k)) ∧ Fr No w wr) (fun _ i _ => m - (intOf i).toNat)
  case atStart => exact ⟨0, a0, n0, k0, rfl, rfl, Nat.zero_le _, by simpa [wordsB] using HR0.out, HF0.out⟩
  case round =>
    obtain ⟨k, a2, n2, k2, rfl, rfl, hkm, hrow, hfr⟩ := hrel
    have HRW := Lib.hid hrow
    have HF := Lib.hid hfr
    have c1 := hfr.cell c1 (fun h => h)
    have c3 := hfr.cell c3 (fun h => h)
    by_cases hlt : k < m
    · obtain ⟨g, o, _, ha, hx⟩ := HI.out (by rw [HM.out]; omega)
      have hx := hfr.cell (hx k (by rw [HM.out]; exact hlt)) (fun h => h)
      have HST := Lib.hid (HSTEP.out k hlt)
      obtain ⟨z, hz⟩ : ∃ z, q.getD k 0 = z := ⟨_, rfl⟩
      rw [hz] at hx HST
      have CW := word_b (z % 4294967296) (Nat.mod_lt _ (by decide)) wr
      rw [word4_mod] at CW
      have CW := Lib.hid CW
      have hzw : IntKind.u32.wrap (z : Int) = ((z % 4294967296 : Nat) : Int) := by
        simp [IntKind.wrap, IntKind.signed, IntKind.bits]
      generalize z % 4294967296 = zm at *
      subst ha
      clear hrow hfr hz
      go_wp2_with fail
      refine (show Calls _ _ _ _ _ from CW.out).mono ?_
      rintro e1 w1 ⟨v1, rfl, r1, f1⟩
      obtain ⟨a1, cc1, rfl, q1, q2, in1⟩ := r1.form
      rw [word4_len] at q1 ⊢
      have hb := HBL.out k hkm
      rw [List.length_append] at hb
      obtain ⟨v', W, hrun, hrow, hfr2⟩ := (HRW.out.grow f1).more (HF.out.trans f1) a1 4 cc1 (word4 z) (word4_len z) in1.rd (by omega)
      obtain ⟨a3, n3, k3, rfl⟩ := hrow.shape
      have HRUN2 := Lib.hid hrun
      have HRW2 := Lib.hid hrow
      have HF2 := Lib.hid hfr2
      clear hrun hrow hfr2 r1 f1 in1 hb CW
      go_wp2_with (at_builtin; refine wpList_append_run rfl _ _ 27 rfl rfl rfl HRUN2.out ?_)
      go_roundw
      case rel => exact ⟨k + 1, a3, n3, k3, rfl, by simp, by omega, by rw [HST.out, ← List.append_assoc]; exact HRW2.out, HF2.out⟩
      case measure => simp [intOf]; omega
    · have hkm : k = m := by omega
      subst hkm
      have HTKE := HTK.out
      rw [HTKE] at HRW
      have CW := Lib.hid (word_b k (by omega) wr)
      have hb0 := HBL.out k (Nat.le_refl _)
      rw [HTKE, List.length_append] at hb0
      have HB0 := Lib.hid hb0
      clear hrow hfr HTKE hb0
      go_wp2_with fail
      refine (show Calls _ _ _ _ _ from CW.out).mono ?_
      rintro e1 w1 ⟨v1, rfl, r1, f1⟩
      obtain ⟨a1, cc1, rfl, q1, q2, in1⟩ := r1.form
      rw [word4_len] at q1 ⊢
      have hb := HB0.out
      have c3 := f1.cell c3 (fun h => h)
      obtain ⟨v', W, hrun, hrow, hfr2⟩ := (HRW.out.grow f1).more (HF.out.trans f1) a1 4 cc1 (word4 k) (word4_len k) in1.rd (by omega)
      obtain ⟨a3, n3, k3, rfl⟩ := hrow.shape
      have hc3 : W.cell? ⟨x, 3, none⟩ = some (.int .i64 (e : Int)) := hfr2.cell HC3.out (fun h => h)
      obtain ⟨v5, W5, hrun5, hrow5, hfr5⟩ := hrow.more1 hfr2 (UInt8.ofNat e) (e : Int) HE.out (by rw [List.length_append, word4_len]; omega)
      have HRUN2 := Lib.hid hrun
      have HRUN5 := Lib.hid hrun5
      have HFIN : Hid (NewZ (blockB e l) w (.returned v5) W5) := Lib.hid ⟨v5, rfl, by rw [HB.out, HM.out]; exact hrow5, hfr5⟩
      clear hrun hrow hfr2 r1 f1 in1 hb CW hrun5 hrow5 hfr5
      go_wp2_with (at_builtin; first | refine wpList_append_run rfl _ _ 27 rfl rfl rfl HRUN2.out ?_ | refine wpList_append_run rfl _ _ 27 rfl rfl rfl HRUN5.out ?_)
      go_ret
      exact HFIN.out
end Go.Proofs.YtlobnbbndkhcbaaGreatDoor
