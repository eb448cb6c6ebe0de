/-
  Texts of layer 13 and of what it stands on, one behind the other.
-/
import Derived.Test.YtlobnbbndkhcbaaGreatDoorMg18
import Derived.Lib.BitFns
import Derived.Test.YtlobnbbndkhcbaaGreatDoorMg15
import Derived.Test.YtlobnbbndkhcbaaGreatDoorMg07
import Derived.Test.YtlobnbbndkhcbaaGreatDoorMg05
import Derived.StillTailTactics
import Derived.Deep.RegionHeld3
import Derived.Deep.QuietTactic
import Derived.BigQuiet

/- The contract of the document's Bytes of a filter (layer 4). -/
namespace Go.Proofs.YtlobnbbndkhcbaaGreatDoor
set_option linter.unusedVariables false
open Go.RowKit

def bitN (on : List Bool) (i : Nat) : Nat := if on.getD i false then 1 else 0
/-- Bits i + 7 down to i + 8 - m, the highest first, as a number. -/
def vb (on : List Bool) (i : Nat) : Nat → Nat
  | 0 => 0
  | m + 1 => vb on i m * 2 + bitN on (i + 7 - m)
theorem bitN_le (on : List Bool) (i : Nat) : bitN on i ≤ 1 := by unfold bitN; split <;> omega
theorem vb_lt (on : List Bool) (i : Nat) : ∀ m, vb on i m < 2 ^ m := by
  intro m
  induction m with
  | zero => simp [vb]
  | succ m ih =>
    have := bitN_le on (i + 7 - m)
    rw [Nat.pow_succ]
    show vb on i m * 2 + bitN on (i + 7 - m) < _
    omega
def filB (on : List Bool) (p r : Nat) : List UInt8 := UInt8.ofNat p :: (List.range r).map fun j => UInt8.ofNat (vb on (8 * j) 8)
theorem filB_succ (on : List Bool) (p r : Nat) : filB on p (r + 1) = filB on p r ++ [UInt8.ofNat (vb on (8 * r) 8)] := by simp [filB, List.range_succ]
theorem filB_length (on : List Bool) (p r : Nat) : (filB on p r).length = r + 1 := by simp [filB]
theorem row_built (w : World) (c : UInt8) : Row (w.alloc (.cells #[byt c] 5)) (Gr No w (w.alloc (.cells #[byt c] 5))) (.slice (some ⟨w.heap.size, 0, none⟩) 1 1) [c] :=
  ⟨⟨rfl, .inr ⟨w.heap.size, 1, #[byt c], rfl, Nat.zero_le _, heap_alloc_new w _, Nat.le_refl _, by simp [maxLen], rfl, rfl⟩⟩, fun k hk => by
    have : w.heap.size = k := Option.some.inj hk
    subst this
    exact .inr ⟨Nat.le_refl _, by simp⟩⟩
theorem grb_lt {w wr : World} : ∀ k, Gr No w wr k → k < wr.heap.size := fun k hk => by
  rcases hk with hk | hk
  · exact hk.elim
  · exact hk.2
set_option maxRecDepth 20000 in
set_option maxHeartbeats 2000000 in
theorem refFBytes_c (b g : Nat) (on : List Bool) (p R : Nat) (w : World) (hf : RFil w b g on p) (hp : p ≤ 64) (hR : on.length = 8 * R) (hR2 : R ≤ 1000000) :
    Calls Tryz.prog 48 #[.pointer (some ⟨b, 0, none⟩)] w fun e w' => ∃ v, e = .returned v ∧ Row w' (Gr No w w') v (filB on p R) ∧ Fr No w w' := by
  have HF := Lib.hid hf
  have c0 := hf.ob.cell 0
  have c1 := hf.ob.cell 1
  rw [hR] at c0
  simp at c0 c1
  have RB := row_built w (UInt8.ofNat p)
  rw [show byt (UInt8.ofNat p) = .int .u8 (p : Int) by unfold byt; rw [UInt8.toNat_ofNat']; congr 1; omega] at RB
  have hfr0 := (Fr.refl No w).alloc (.cells #[.int .u8 (p : Int)] 5)
  have HB := Lib.hid RB
  have HFr0 := Lib.hid hfr0
  have HR := Lib.hid hR
  clear RB hfr0 hf hR
  go_enter Tryz.func48, Tryz.ntmps48
  go_wp2_with fail
  go_loopw [3, 4] (fun v i wr => ∃ r : Nat, i = .int .i64 ((8 * r : Nat) : Int) ∧ r ≤ R ∧ Row wr (Gr No w wr) v (filB on p r) ∧ Fr No w wr) (fun _ i _ => 8 * R - (intOf i).toNat)
  case atStart => exact ⟨0, rfl, Nat.zero_le _, by simpa [filB] using HB.out, HFr0.out⟩
  case round =>
    obtain ⟨r, rfl, hr, hrow, hfr⟩ := hrel
    have fil := HF.out.keep hfr (fun h => h) (fun h => h)
    have d0 := fil.ob.cell 0
    rw [HR.out] at d0
    simp at d0
    by_cases h1 : r < R
    · obtain ⟨I, hI⟩ : ∃ I, 8 * r = I := ⟨_, rfl⟩
      rw [hI]
      have hI2 : I + 8 ≤ 8 * R := by omega
      have hIR : I ≤ 8000000 := by omega
      have hon := fil.on
      obtain ⟨v1, w1, hrun, hrow1, hfr1⟩ := hrow.push grb_lt (UInt8.ofNat (vb on (8 * r) 8)) (by rw [filB_length]; omega)
      have hrow1 := hrow1.join hfr.size hfr1.size
      rw [← filB_succ] at hrow1
      have h256 := vb_lt on (8 * r) 8
      rw [UInt8.toNat_ofNat', hI, show (((vb on I 8 % 2 ^ 8 : Nat)) : Int) = ((vb on I 8 : Nat) : Int) by rw [hI] at h256; omega] at hrun
      have HRUN := Lib.hid hrun
      have HW := Lib.hid hrow1
      have HFr := Lib.hid (hfr.then_ hfr1 fun k hk h => Gr.old hk h)
      have HON := Lib.hid hon
      have HI := Lib.hid hI
      clear hrun hrow hrow1 hfr hfr1 hon hI fil h256
      go_wp2_with fail
      go_loopw [5, 6] (fun cv i wr' => ∃ m c q : Nat, q + m = 8 ∧ i = .int .i64 ((q : Int) - 1) ∧ cv = .int .i64 c ∧ c = vb on I m ∧ wr' = wr) (fun _ i _ => (intOf i + 1).toNat)
      case atStart => exact ⟨0, 0, 8, rfl, rfl, rfl, rfl, rfl⟩
      case round =>
        obtain ⟨m, c, q, hqm, hi, rfl, hc, rfl⟩ := hrel
        have hlt := vb_lt on I m
        rw [← hc] at hlt
        have hpow : 2 ^ m ≤ 256 := Nat.pow_le_pow_right (n := 2) (by omega) (show m ≤ 8 by omega)
        have hc256 : c < 256 := Nat.lt_of_lt_of_le hlt hpow
        cases q with
        | zero =>
          have hm8 : m = 8 := by omega
          subst hm8
          rw [show (((0 : Nat) : Int) - 1) = -1 by omega] at hi
          subst hi
          rw [← hc] at HRUN
          clear hc hlt hpow
          go_wp2_with (at_builtin; refine wpList_append_run rfl _ _ 27 rfl rfl rfl HRUN.out ?_)
          go_roundw
          case rel => exact ⟨r + 1, by have := HI.out; simp; omega, by omega, HW.out, HFr.out⟩
          case measure => simp [intOf]; omega
        | succ q =>
          rw [show (((q + 1 : Nat) : Int) - 1) = (q : Int) by omega] at hi
          subst hi
          have hbit := HON.out.cell (I + q)
          rw [boolsV_at on _ (by rw [HR.out]; omega)] at hbit
          have HV := Lib.hid (show vb on I (m + 1) = c * 2 + bitN on (I + q) by
            show vb on I m * 2 + bitN on (I + 7 - m) = _
            rw [← hc, show I + 7 - m = I + q by omega])
          clear hc hlt hpow
          by_cases hb : on.getD (I + q) false = true
          · rw [hb] at hbit
            have hb1 : bitN on (I + q) = 1 := by unfold bitN; rw [if_pos hb]
            rw [hb1] at HV
            clear hb hb1
            go_wp2_with fail
            go_roundw
            case rel => exact ⟨m + 1, c * 2 + 1, q, by omega, rfl, by simp, HV.out.symm, by simp⟩
            case measure => simp [intOf]
          · have hb' : on.getD (I + q) false = false := by simpa using hb
            rw [hb'] at hbit
            have hb1 : bitN on (I + q) = 0 := by unfold bitN; rw [if_neg hb]
            rw [hb1] at HV
            clear hb hb' hb1
            go_wp2_with fail
            go_roundw
            case rel => exact ⟨m + 1, c * 2 + 0, q, by omega, rfl, by simp, HV.out.symm, by simp⟩
            case measure => simp [intOf]
    · have hrR : r = R := by omega
      subst hrR
      have HW := Lib.hid hrow
      have HFr := Lib.hid hfr
      clear hrow hfr fil
      go_wp2_with fail
      go_ret
      exact ⟨_, rfl, HW.out, HFr.out⟩
end Go.Proofs.YtlobnbbndkhcbaaGreatDoor

/- Plain mathematics of layer 4: bits within bytes. No program is named. -/
namespace Go.Proofs.YtlobnbbndkhcbaaGreatDoor
set_option linter.unusedVariables false

def bitB (bs : List UInt8) (i : Nat) : Bool := (bs.getD (i / 8) 0).toNat.testBit (i % 8)
def putB (bs : List UInt8) (i : Nat) : List UInt8 := bs.set (i / 8) (UInt8.ofNat ((bs.getD (i / 8) 0).toNat ||| 2 ^ (i % 8)))
def putAll (bs : List UInt8) (ps : List Nat) : List UInt8 := ps.foldl putB bs
def hasB (bs : List UInt8) (ps : List Nat) : Bool := ps.all (bitB bs)

theorem putB_length (bs : List UInt8) (i : Nat) : (putB bs i).length = bs.length := by simp [putB]
theorem putAll_length (ps : List Nat) : ∀ bs : List UInt8, (putAll bs ps).length = bs.length := by
  induction ps with
  | nil => intro bs; rfl
  | cons i ps ih => intro bs; exact (ih (putB bs i)).trans (putB_length bs i)
theorem putAll_snoc (bs : List UInt8) (ps : List Nat) (i : Nat) : putAll bs (ps ++ [i]) = putB (putAll bs ps) i := by simp [putAll]
theorem putAll_append (bs : List UInt8) (ps qs : List Nat) : putAll bs (ps ++ qs) = putAll (putAll bs ps) qs := by simp [putAll]
theorem u8_lt (x : UInt8) : x.toNat < 256 := x.toNat_lt
theorem or_lt256 (x k : Nat) (h : x < 256) (hk : k < 8) : x ||| 2 ^ k < 256 := by
  have : 2 ^ k < 2 ^ 8 := Nat.pow_lt_pow_right (by decide) hk
  exact Nat.or_lt_two_pow (n := 8) h this
theorem toNat_of (n : Nat) (h : n < 256) : (UInt8.ofNat n).toNat = n := by
  rw [UInt8.toNat_ofNat']
  omega
theorem getD_set (l : List UInt8) (i j : Nat) (v : UInt8) (h : i < l.length) : (l.set i v).getD j 0 = if i = j then v else l.getD j 0 := by
  simp only [List.getD_eq_getElem?_getD, List.getElem?_set]
  by_cases e : i = j
  · subst e; simp [h]
  · simp [e]
theorem bitB_putB (bs : List UInt8) (i j : Nat) (h : i < 8 * bs.length) : bitB (putB bs i) j = (bitB bs j || decide (i = j)) := by
  unfold bitB putB
  rw [getD_set _ _ _ _ (by omega)]
  have hx := u8_lt (bs.getD (i / 8) 0)
  have hlt := or_lt256 _ (i % 8) hx (by omega)
  by_cases e : i / 8 = j / 8
  · rw [if_pos e, toNat_of _ hlt, Nat.testBit_or, Nat.testBit_two_pow, e]
    congr 1
    exact decide_eq_decide.2 (by omega)
  · rw [if_neg e]
    have : i ≠ j := fun h => e (by rw [h])
    simp [this]
theorem bitB_putAll (ps : List Nat) : ∀ (bs : List UInt8) (j : Nat), (∀ i ∈ ps, i < 8 * bs.length) → bitB (putAll bs ps) j = (bitB bs j || decide (j ∈ ps)) := by
  induction ps with
  | nil => intro bs j _; simp [putAll]
  | cons i ps ih =>
    intro bs j h
    have h1 := ih (putB bs i) j (fun x hx => by rw [putB_length]; exact h x (List.mem_cons_of_mem _ hx))
    have h2 := bitB_putB bs i j (h i (List.mem_cons_self ..))
    show bitB (putAll (putB bs i) ps) j = _
    rw [h1, h2, Bool.or_assoc]
    congr 1
    rw [Bool.eq_iff_iff, Bool.or_eq_true, decide_eq_true_eq, decide_eq_true_eq, decide_eq_true_eq, List.mem_cons]
    exact ⟨fun h => h.elim (fun e => .inl e.symm) .inr, fun h => h.elim (fun e => .inl e.symm) .inr⟩
/-- A filter holds each bit of what was put. -/
theorem hasB_put (bs : List UInt8) (ps : List Nat) (h : ∀ i ∈ ps, i < 8 * bs.length) : hasB (putAll bs ps) ps = true := by
  unfold hasB
  rw [List.all_eq_true]
  intro i hi
  rw [bitB_putAll ps bs i h]
  simp [hi]
theorem hasB_more (bs : List UInt8) (ps qs : List Nat) (h : ∀ i ∈ ps, i < 8 * bs.length) (hq : hasB bs qs = true) : hasB (putAll bs ps) qs = true := by
  unfold hasB at *
  rw [List.all_eq_true] at *
  intro i hi
  rw [bitB_putAll ps bs i h, hq i hi]
  rfl

/-- The bits, one behind the other. -/
def bits8 (b : UInt8) : List Bool := [b.toNat.testBit 0, b.toNat.testBit 1, b.toNat.testBit 2, b.toNat.testBit 3, b.toNat.testBit 4, b.toNat.testBit 5, b.toNat.testBit 6, b.toNat.testBit 7]
def bitsOf : List UInt8 → List Bool
  | [] => []
  | b :: bs => bits8 b ++ bitsOf bs
theorem bits8_get (b : UInt8) (i : Nat) (h : i < 8) : (bits8 b).getD i false = b.toNat.testBit i := by
  rcases i with _ | _ | _ | _ | _ | _ | _ | _ | i <;> first | rfl | omega
theorem bitsOf_length (bs : List UInt8) : (bitsOf bs).length = 8 * bs.length := by
  induction bs with
  | nil => rfl
  | cons b bs ih => simp only [bitsOf, List.length_append, ih, List.length_cons]; simp [bits8]; omega
theorem bitsOf_get (bs : List UInt8) : ∀ i, (bitsOf bs).getD i false = bitB bs i := by
  induction bs with
  | nil => intro i; simp [bitsOf, bitB]
  | cons b bs ih =>
    intro i
    have hl : (bits8 b).length = 8 := rfl
    rcases Nat.lt_or_ge i 8 with h | h
    · have : (bitsOf (b :: bs)).getD i false = (bits8 b).getD i false := by
        simp only [bitsOf, List.getD_eq_getElem?_getD]
        rw [List.getElem?_append_left (by rw [hl]; exact h)]
      rw [this, bits8_get b i h]
      unfold bitB
      rw [show i / 8 = 0 by omega, show i % 8 = i by omega]
      rfl
    · have : (bitsOf (b :: bs)).getD i false = (bitsOf bs).getD (i - 8) false := by
        simp only [bitsOf, List.getD_eq_getElem?_getD]
        rw [List.getElem?_append_right (by rw [hl]; exact h), hl]
      rw [this, ih]
      unfold bitB
      rw [show i / 8 = (i - 8) / 8 + 1 by omega, show (i - 8) % 8 = i % 8 by omega]
      rfl
theorem bools_ext (x y : List Bool) (hl : x.length = y.length) (h : ∀ i, i < x.length → x.getD i false = y.getD i false) : x = y := by
  apply List.ext_getElem hl
  intro i h1 h2
  have := h i h1
  simpa [List.getD, h1, h2] using this
theorem bitsOf_put (bs : List UInt8) (i : Nat) (h : i < 8 * bs.length) : (bitsOf bs).set i true = bitsOf (putB bs i) := by
  apply bools_ext
  · rw [List.length_set, bitsOf_length, bitsOf_length, putB_length]
  · intro j hj
    rw [List.length_set, bitsOf_length] at hj
    rw [bitsOf_get, bitB_putB bs i j h, ← bitsOf_get bs j]
    simp only [List.getD_eq_getElem?_getD, List.getElem?_set]
    by_cases e : i = j
    · subst e; simp [bitsOf_length, hj]
    · simp [e]
theorem bitsOf_putAll (ps : List Nat) : ∀ (bs : List UInt8), (∀ i ∈ ps, i < 8 * bs.length) → setAll (bitsOf bs) ps = bitsOf (putAll bs ps) := by
  induction ps with
  | nil => intro bs _; rfl
  | cons i ps ih =>
    intro bs h
    show setAll ((bitsOf bs).set i true) ps = bitsOf (putAll (putB bs i) ps)
    rw [bitsOf_put bs i (h i (List.mem_cons_self ..))]
    exact ih (putB bs i) fun x hx => by rw [putB_length]; exact h x (List.mem_cons_of_mem _ hx)
theorem bitsOf_has (bs : List UInt8) (ps : List Nat) : hasAll (bitsOf bs) ps = hasB bs ps := by
  unfold hasAll hasB
  congr 1
  funext i
  exact bitsOf_get bs i
theorem bitsOf_zero (n : Nat) : bitsOf (List.replicate n 0) = List.replicate (8 * n) false := by
  induction n with
  | zero => rfl
  | succ n ih =>
    rw [List.replicate_succ, bitsOf, ih, show 8 * (n + 1) = 8 + 8 * n by omega, ← List.replicate_append_replicate]
    rfl
/-- Bytes of as many bits are one where all bits are. -/
theorem byte_ext (x y : UInt8) (h : ∀ i, i < 8 → x.toNat.testBit i = y.toNat.testBit i) : x = y := by
  apply UInt8.toNat_inj.1
  apply Nat.eq_of_testBit_eq
  intro i
  rcases Nat.lt_or_ge i 8 with h1 | h1
  · exact h i h1
  · have hp : 2 ^ 8 ≤ 2 ^ i := Nat.pow_le_pow_right (by decide) h1
    rw [Nat.testBit_lt_two_pow (Nat.lt_of_lt_of_le (u8_lt x) hp), Nat.testBit_lt_two_pow (Nat.lt_of_lt_of_le (u8_lt y) hp)]
theorem bytes_ext (x y : List UInt8) (hl : x.length = y.length) (h : ∀ i, i < 8 * x.length → bitB x i = bitB y i) : x = y := by
  apply List.ext_getElem hl
  intro i h1 h2
  apply byte_ext
  intro k hk
  have := h (8 * i + k) (by omega)
  unfold bitB at this
  rw [show (8 * i + k) / 8 = i by omega, show (8 * i + k) % 8 = k by omega] at this
  simpa [List.getD, h1, h2] using this

/-- How many bits are set. -/
def popB (b : UInt8) : Nat := (bits8 b).count true
def setN : List UInt8 → Nat
  | [] => 0
  | b :: bs => popB b + setN bs
theorem ones_pop : ∀ n : Fin 256, Lib.onesCount n.val = [n.val.testBit 0, n.val.testBit 1, n.val.testBit 2, n.val.testBit 3, n.val.testBit 4, n.val.testBit 5, n.val.testBit 6, n.val.testBit 7].count true := by decide +kernel
theorem popB_ones (b : UInt8) : Lib.onesCount b.toNat = popB b := ones_pop ⟨b.toNat, u8_lt b⟩
theorem popB_le (b : UInt8) : popB b ≤ 8 := List.count_le_length
theorem setN_append (x y : List UInt8) : setN (x ++ y) = setN x + setN y := by
  induction x with
  | nil => simp [setN]
  | cons b x ih => rw [List.cons_append, setN, ih, setN]; omega
theorem setN_count (bs : List UInt8) : (bitsOf bs).count true = setN bs := by
  induction bs with
  | nil => rfl
  | cons b bs ih => rw [bitsOf, List.count_append, ih]; rfl
theorem setN_le (bs : List UInt8) : setN bs ≤ 8 * bs.length := by
  rw [← setN_count, ← bitsOf_length]
  exact List.count_le_length
theorem count_set (l : List Bool) : ∀ i : Nat, l.count true ≤ (l.set i true).count true := by
  induction l with
  | nil => intro i; simp
  | cons a l ih =>
    intro i
    cases i with
    | zero => cases a <;> simp
    | succ i => rw [List.set_cons_succ, List.count_cons, List.count_cons]; have := ih i; omega
theorem setN_put (bs : List UInt8) (i : Nat) (h : i < 8 * bs.length) : setN bs ≤ setN (putB bs i) := by
  rw [← setN_count, ← setN_count, ← bitsOf_put bs i h]
  exact count_set _ _
theorem setN_putAll (ps : List Nat) : ∀ (bs : List UInt8), (∀ i ∈ ps, i < 8 * bs.length) → setN bs ≤ setN (putAll bs ps) := by
  induction ps with
  | nil => intro bs _; exact Nat.le_refl _
  | cons i ps ih =>
    intro bs h
    exact Nat.le_trans (setN_put bs i (h i (List.mem_cons_self ..))) (ih (putB bs i) fun x hx => by rw [putB_length]; exact h x (List.mem_cons_of_mem _ hx))
theorem setN_pos (bs : List UInt8) (i : Nat) (h : bitB bs i = true) : 0 < setN bs := by
  rw [← setN_count]
  rw [← bitsOf_get] at h
  apply List.count_pos_iff.2
  rcases Nat.lt_or_ge i (bitsOf bs).length with h1 | h1
  · have : (bitsOf bs)[i] = true := by simpa [List.getD, h1] using h
    rw [← this]
    exact List.getElem_mem h1
  · rw [List.getD_eq_getElem?_getD, List.getElem?_eq_none h1] at h
    cases h
theorem setN_zero (n : Nat) : setN (List.replicate n 0) = 0 := by
  rw [← setN_count, bitsOf_zero]
  simp [List.count_replicate]
theorem bitB_zero (n i : Nat) : bitB (List.replicate n 0) i = false := by
  rw [← bitsOf_get, bitsOf_zero]
  simp only [List.getD_eq_getElem?_getD, List.getElem?_replicate]
  split <;> rfl
theorem hasB_zero (n : Nat) (ps : List Nat) (h : ps ≠ []) : hasB (List.replicate n 0) ps = false := by
  cases ps with
  | nil => exact absurd rfl h
  | cons i ps => simp [hasB, bitB_zero]
/-- Eight bits make their byte. -/
theorem byte_sum : ∀ x : Fin 256, ((((((((0 * 2 + (x.val.testBit 7).toNat) * 2 + (x.val.testBit 6).toNat) * 2 + (x.val.testBit 5).toNat) * 2 + (x.val.testBit 4).toNat) * 2 + (x.val.testBit 3).toNat) * 2 + (x.val.testBit 2).toNat) * 2 + (x.val.testBit 1).toNat) * 2 + (x.val.testBit 0).toNat) = x.val := by decide +kernel
theorem bitN_of (bs : List UInt8) (i : Nat) : bitN (bitsOf bs) i = (bitB bs i).toNat := by
  unfold bitN
  rw [bitsOf_get]
  cases bitB bs i <;> rfl
theorem bitB_at (bs : List UInt8) (r k : Nat) (hk : k < 8) : bitB bs (8 * r + k) = (bs.getD r 0).toNat.testBit k := by
  unfold bitB
  rw [show (8 * r + k) / 8 = r by omega, show (8 * r + k) % 8 = k by omega]
theorem vb_byte (bs : List UInt8) (r : Nat) : vb (bitsOf bs) (8 * r) 8 = (bs.getD r 0).toNat := by
  simp only [vb, bitN_of]
  rw [show 8 * r + 7 - 0 = 8 * r + 7 by omega, show 8 * r + 7 - 1 = 8 * r + 6 by omega, show 8 * r + 7 - 2 = 8 * r + 5 by omega, show 8 * r + 7 - 3 = 8 * r + 4 by omega, show 8 * r + 7 - 4 = 8 * r + 3 by omega, show 8 * r + 7 - 5 = 8 * r + 2 by omega, show 8 * r + 7 - 6 = 8 * r + 1 by omega, show 8 * r + 7 - 7 = 8 * r + 0 by omega]
  rw [bitB_at _ _ _ (by decide), bitB_at _ _ _ (by decide), bitB_at _ _ _ (by decide), bitB_at _ _ _ (by decide), bitB_at _ _ _ (by decide), bitB_at _ _ _ (by decide), bitB_at _ _ _ (by decide), bitB_at _ _ _ (by decide)]
  exact byte_sum ⟨_, u8_lt (bs.getD r 0)⟩
/-- The document's bytes of the same bits. -/
theorem filB_bits (bs : List UInt8) (p : Nat) : filB (bitsOf bs) p bs.length = UInt8.ofNat p :: bs := by
  unfold filB
  congr 1
  apply List.ext_getElem
  · simp
  · intro i h1 h2
    simp only [List.getElem_map, List.getElem_range, vb_byte]
    rw [UInt8.ofNat_toNat]
    simp [List.getD, h2]
/-- A law's last place within the bytes. -/
theorem places_in (l : List UInt8) (bs : List UInt8) (n : Nat) (h : 0 < bs.length) : ∀ i ∈ places l (8 * bs.length) n, i < 8 * bs.length := places_lt l _ n (by omega)
end Go.Proofs.YtlobnbbndkhcbaaGreatDoor

/- Layer 13, the program's own: plain mathematics of a table: its pairs, its data blocks, its index, its filter, its foot. -/
namespace Go.Proofs.YtlobnbbndkhcbaaGreatDoor
set_option linter.unusedVariables false

/-! ### The pairs of entries. -/
def keyB (x : Ent) : List UInt8 := encK x.u.data.toList x.q x.k
def prE (x : Ent) : Pr := ⟨strOf (keyB x), x.val⟩
def prsE (l : List Ent) : List Pr := l.map prE
theorem prsE_len (l : List Ent) : (prsE l).length = l.length := by unfold prsE; rw [List.length_map]
theorem prsE_get (l : List Ent) (i : Nat) (h : i < l.length) : (prsE l).getD i pr0 = prE (l.getD i ent0) := by
  unfold prsE
  rw [List.getD_eq_getElem?_getD, List.getElem?_map, List.getElem?_eq_getElem h, getD_ent l i h]
  rfl
theorem prsE_take (l : List Ent) (k : Nat) : prsE (l.take k) = (prsE l).take k := by unfold prsE; rw [List.map_take]
theorem prsE_app (l m : List Ent) : prsE (l ++ m) = prsE l ++ prsE m := by unfold prsE; rw [List.map_append]
theorem bs_strT (p : List UInt8) : bs (strOf p) = p := by unfold bs strOf; simp
theorem bs_prE (x : Ent) : bs (prE x).key = keyB x := bs_strT _
theorem size_strT (p : List UInt8) : (strOf p).size = p.length := by rw [← bs_length, bs_strT]
theorem keyB_len (x : Ent) (h : RtE x) : (keyB x).length ≤ 137 := by
  unfold keyB encK
  have h1 := escs_length x.u.data.toList
  obtain ⟨_, h2, _⟩ := h
  have h3 : x.u.data.toList.length = x.u.size := by rw [Array.length_toList]; rfl
  rw [List.length_append, List.length_append, tailB_length, List.length_cons, List.length_cons, List.length_nil]
  omega
/-- An entry may stand where it stands. -/
def okA (l : List Ent) (i : Nat) : Prop := RtE (l.getD i ent0) ∧ (1 ≤ i → cmpE (l.getD (i - 1) ent0) (l.getD i ent0) < 0)
instance (l : List Ent) (i : Nat) : Decidable (okA l i) := by unfold okA; infer_instance
/-- How many entries are right, from the first on. -/
def rpG (l : List Ent) : Nat → Nat → Nat
  | 0, i => i
  | n + 1, i => if okA l i then rpG l n (i + 1) else i
def rpre (l : List Ent) : Nat := rpG l (min l.length 65536) 0
theorem rpG_is (l : List Ent) : ∀ n i, i ≤ rpG l n i ∧ rpG l n i ≤ i + n ∧ (∀ j, i ≤ j → j < rpG l n i → okA l j) ∧ (rpG l n i < i + n → ¬ okA l (rpG l n i))
  | 0, i => ⟨Nat.le_refl _, Nat.le_refl _, fun j h1 h2 => by unfold rpG at h2; omega, fun h => by unfold rpG at h; omega⟩
  | n + 1, i => by
    by_cases h : okA l i
    · have e : rpG l (n + 1) i = rpG l n (i + 1) := by show (if _ then _ else _) = _; rw [if_pos h]
      rw [e]
      obtain ⟨h1, h2, h3, h4⟩ := rpG_is l n (i + 1)
      refine ⟨by omega, by omega, fun j h5 h6 => ?_, fun h5 => h4 (by omega)⟩
      by_cases hj : j = i
      · rw [hj]; exact h
      · exact h3 j (by omega) h6
    · have e : rpG l (n + 1) i = i := by show (if _ then _ else _) = _; rw [if_neg h]
      rw [e]
      exact ⟨Nat.le_refl _, by omega, fun j h5 h6 => by omega, fun _ => h⟩
theorem rpre_is (l : List Ent) : rpre l ≤ l.length ∧ rpre l ≤ 65536 ∧ (∀ j, j < rpre l → okA l j) ∧ (rpre l < l.length → rpre l < 65536 → ¬ okA l (rpre l)) := by
  obtain ⟨h1, h2, h3, h4⟩ := rpG_is l (min l.length 65536) 0
  unfold rpre
  exact ⟨by omega, by omega, fun j h => h3 j (Nat.zero_le _) h, fun h5 h6 => h4 (by omega)⟩
theorem rpre_right (l : List Ent) : RightL l ↔ 1 ≤ l.length ∧ rpre l = l.length := by
  obtain ⟨h1, h2, h3, h4⟩ := rpre_is l
  constructor
  · rintro ⟨h5, h6, h7⟩
    refine ⟨h6, ?_⟩
    rcases Nat.lt_or_ge (rpre l) l.length with h8 | h8
    · exact absurd (h5 _ h8) (h4 h8 (by omega))
    · omega
  · rintro ⟨h5, h6⟩
    exact ⟨fun i hi => h3 i (by omega), h5, by omega⟩
theorem rpre_take (l : List Ent) : rpre (l.take (rpre l)) = (l.take (rpre l)).length := by
  obtain ⟨h1, h2, h3, h4⟩ := rpre_is l
  obtain ⟨g1, g2, g3, g4⟩ := rpre_is (l.take (rpre l))
  have hl : (l.take (rpre l)).length = rpre l := by rw [List.length_take]; omega
  rcases Nat.lt_or_ge (rpre (l.take (rpre l))) (l.take (rpre l)).length with h8 | h8
  · exfalso
    refine g4 h8 (by omega) ?_
    have e : ∀ i, i < rpre l → (l.take (rpre l)).getD i ent0 = l.getD i ent0 := fun i hi => by
      rw [List.getD_eq_getElem?_getD, List.getD_eq_getElem?_getD, List.getElem?_take_of_lt hi]
    have := h3 (rpre (l.take (rpre l))) (by omega)
    unfold okA at this ⊢
    rw [e _ (by omega)]
    refine ⟨this.1, fun h => ?_⟩
    rw [e _ (by omega)]
    exact this.2 h
  · omega
/-- Right entries' keys stand in order. -/
theorem ord_prsE (l : List Ent) (h : ∀ j, j < l.length → okA l j) : ordP (prsE l) := fun i h1 h2 => by
  rw [prsE_len] at h2
  unfold cmpP
  rw [prsE_get l i h2, prsE_get l (i - 1) (by omega), bs_prE, bs_prE]
  have g1 := h i h2
  have g0 := h (i - 1) (by omega)
  unfold keyB
  rw [cmpB_encK _ _ _ _ _ _ _ _ g0.1 g1.1]
  exact g1.2 h1
def Pairs (l : List Ent) : List Pr := prsE (l.take (rpre l))
theorem pairs_ord (l : List Ent) : ordP (Pairs l) := by
  refine ord_prsE _ fun j hj => ?_
  have h := rpre_take l
  exact (rpre_is (l.take (rpre l))).2.2.1 j (by omega)
theorem pairs_len (l : List Ent) : (Pairs l).length = rpre l := by
  unfold Pairs
  rw [prsE_len, List.length_take]
  have := (rpre_is l).1
  omega
theorem pairs_all {l : List Ent} (h : rpre l = l.length) : Pairs l = prsE l := by unfold Pairs; rw [h, List.take_length]
theorem pairs_get (l : List Ent) (i : Nat) (h : i < rpre l) : (Pairs l).getD i pr0 = prE (l.getD i ent0) := by
  have h1 := (rpre_is l).1
  unfold Pairs
  rw [prsE_get _ _ (by rw [List.length_take]; omega)]
  congr 1
  rw [List.getD_eq_getElem?_getD, List.getD_eq_getElem?_getD, List.getElem?_take_of_lt h]
theorem pairs_low {l : List Ent} {m : Nat} (hm : 137 ≤ m) (h : ∀ x ∈ l, x.val.size ≤ m) : Low m (Pairs l) := fun i hi => by
  rw [pairs_len] at hi
  have h1 := (rpre_is l).1
  rw [pairs_get l i hi]
  have h2 := ((rpre_is l).2.2.1 i hi).1
  have h3 := keyB_len _ h2
  refine ⟨?_, h _ (getD_memE l i (by omega))⟩
  show (strOf _).size ≤ m
  rw [size_strT]
  omega

/-! ### The data blocks. -/
def flN (p : Pr) : Nat := p.key.size + p.val.size
def ctG (s : Nat) (L : List Pr) : Nat → Nat → Nat → Nat → List (Nat × Nat)
  | 0, _, _, _ => []
  | f + 1, i, o, n => if s ≤ n + flN (L.getD i pr0) ∨ L.length ≤ i + 1 then (o, i + 1) :: ctG s L f (i + 1) (i + 1) 0 else ctG s L f (i + 1) o (n + flN (L.getD i pr0))
/-- Where the data blocks begin and end. -/
def cuts (s : Nat) (L : List Pr) : List (Nat × Nat) := ctG s L L.length 0 0 0
def subP (L : List Pr) (c : Nat × Nat) : List Pr := (L.drop c.1).take (c.2 - c.1)
theorem subP_len (L : List Pr) (c : Nat × Nat) (h : c.2 ≤ L.length) : (subP L c).length = c.2 - c.1 := by
  unfold subP
  rw [List.length_take, List.length_drop]
  omega
theorem subP_get (L : List Pr) (c : Nat × Nat) (i : Nat) (h : i < c.2 - c.1) : (subP L c).getD i pr0 = L.getD (c.1 + i) pr0 := by
  unfold subP
  rw [List.getD_eq_getElem?_getD, List.getD_eq_getElem?_getD, List.getElem?_take_of_lt h, List.getElem?_drop]
theorem subP_ord {L : List Pr} (h : ordP L) (c : Nat × Nat) (hc : c.2 ≤ L.length) : ordP (subP L c) := fun i h1 h2 => by
  rw [subP_len L c hc] at h2
  have := h (c.1 + i) (by omega) (by omega)
  unfold cmpP at this ⊢
  rw [subP_get L c i h2, subP_get L c (i - 1) (by omega), show c.1 + (i - 1) = c.1 + i - 1 by omega]
  exact this
theorem subP_low {L : List Pr} {m : Nat} (h : Low m L) (c : Nat × Nat) (hc : c.2 ≤ L.length) : Low m (subP L c) := fun i hi => by
  rw [subP_len L c hc] at hi
  rw [subP_get L c i hi]
  exact h _ (by omega)
/-- Cuts that follow each other: the first begins at o, the last ends at e. -/
def Chain : Nat → List (Nat × Nat) → Nat → Prop
  | o, [], e => o = e
  | o, c :: l, e => c.1 = o ∧ o < c.2 ∧ Chain c.2 l e
theorem chain_le : ∀ (l : List (Nat × Nat)) (o e : Nat), Chain o l e → o + l.length ≤ e
  | [], o, e, h => Nat.le_of_eq h
  | c :: l, o, e, ⟨h1, h2, h3⟩ => by
    have := chain_le l _ _ h3
    rw [List.length_cons]
    omega
theorem chain_app : ∀ (l m : List (Nat × Nat)) (o e : Nat), Chain o (l ++ m) e ↔ ∃ k, Chain o l k ∧ Chain k m e
  | [], m, o, e => ⟨fun h => ⟨o, rfl, h⟩, fun ⟨k, h1, h2⟩ => by cases h1; exact h2⟩
  | c :: l, m, o, e => by
    show (_ ∧ _ ∧ Chain c.2 (l ++ m) e) ↔ _
    rw [chain_app l m c.2 e]
    exact ⟨fun ⟨h1, h2, k, h3, h4⟩ => ⟨k, ⟨h1, h2, h3⟩, h4⟩, fun ⟨k, ⟨h1, h2, h3⟩, h4⟩ => ⟨h1, h2, k, h3, h4⟩⟩
theorem ctG_chain (s : Nat) (L : List Pr) : ∀ f i o n, i + f = L.length → o ≤ i → (f = 0 → o = i) → Chain o (ctG s L f i o n) L.length
  | 0, i, o, n, h1, h2, h3 => by
    show o = L.length
    have := h3 rfl
    omega
  | f + 1, i, o, n, h1, h2, h3 => by
    show Chain o (if _ then _ else _) _
    split
    · exact ⟨rfl, by show o < i + 1; omega, ctG_chain s L f (i + 1) (i + 1) 0 (by omega) (Nat.le_refl _) fun _ => rfl⟩
    · rename_i h
      exact ctG_chain s L f (i + 1) o _ (by omega) (by omega) fun h4 => by
        exfalso
        exact h (.inr (by omega))
theorem cuts_chain (s : Nat) (L : List Pr) : Chain 0 (cuts s L) L.length := ctG_chain s L L.length 0 0 0 (by omega) (Nat.le_refl _) fun h => by omega
theorem chain_in : ∀ (l : List (Nat × Nat)) (o e : Nat), Chain o l e → ∀ c ∈ l, o ≤ c.1 ∧ c.1 < c.2 ∧ c.2 ≤ e
  | [], _, _, _, c, h => absurd h (List.not_mem_nil)
  | d :: l, o, e, ⟨h1, h2, h3⟩, c, h => by
    have h4 := chain_le l _ _ h3
    rcases List.mem_cons.1 h with rfl | h
    · exact ⟨by omega, by omega, by omega⟩
    · obtain ⟨g1, g2, g3⟩ := chain_in l _ _ h3 c h
      exact ⟨by omega, g2, g3⟩

/-! ### What is laid of them. -/
def fblk (e : Nat) (g : List Pr) : List UInt8 := frameL (blockB e g)
def idxP (last : ByteArray) (at_ n : Nat) : Pr := ⟨last, strOf (enc at_ ++ enc n)⟩
def layS (e : Nat) (L : List Pr) (st : List UInt8 × List Pr) (c : Nat × Nat) : List UInt8 × List Pr :=
  (st.1 ++ fblk e (subP L c), st.2 ++ [idxP (L.getD (c.2 - 1) pr0).key st.1.length (fblk e (subP L c)).length])
def layG (e : Nat) (L : List Pr) (cs : List (Nat × Nat)) : List UInt8 × List Pr := cs.foldl (layS e L) ([], [])
theorem layG_app (e : Nat) (L : List Pr) (cs : List (Nat × Nat)) (c : Nat × Nat) : layG e L (cs ++ [c]) = layS e L (layG e L cs) c := by
  unfold layG
  rw [List.foldl_append]
  rfl
theorem layG_len (e : Nat) (L : List Pr) (cs : List (Nat × Nat)) : (layG e L cs).2.length = cs.length := by
  have : ∀ (cs : List (Nat × Nat)) (st : List UInt8 × List Pr), (cs.foldl (layS e L) st).2.length = st.2.length + cs.length := by
    intro cs
    induction cs with
    | nil => intro st; rfl
    | cons c cs ih =>
      intro st
      rw [List.foldl_cons, ih]
      show (st.2 ++ [_]).length + _ = _
      rw [List.length_append, List.length_cons, List.length_cons, List.length_nil]
      omega
  have := this cs ([], [])
  unfold layG
  rw [this]
  exact Nat.zero_add _
/-- The bytes of the filter of some entries. -/
def filBs (l : List Ent) (n : Nat) : List UInt8 := l.foldl (fun b x => putAll b (places (bs x.u) (8 * b.length) (probF n))) (List.replicate ((max (l.length * n) 64 + 7) / 8) 0)
def filP (l : List Ent) (n : Nat) : List UInt8 := UInt8.ofNat (probF n) :: filBs l n
def w32 (n : Nat) : List UInt8 := wordL ((n % 4294967296 : Nat) : Int)
def footN (l : List Nat) : List UInt8 := l.flatMap w32
def footB (l : List Nat) : List UInt8 := footN l ++ wordL (sumW (footN l))
def tailT (data : List UInt8) (index : List Pr) (fb : List UInt8) (n : Nat) : List UInt8 :=
  data ++ (fblk 1 index ++ (frameL fb ++ footB [data.length, (fblk 1 index).length, data.length + (fblk 1 index).length, (frameL fb).length, n]))
/-- THE BYTES OF A TABLE, and how many data blocks it has. -/
def TBp (l : List Ent) (o : Opt) : List UInt8 := tailT (layG o.e.toNat (prsE l) (cuts o.b.toNat (prsE l))).1 (layG o.e.toNat (prsE l) (cuts o.b.toNat (prsE l))).2 (filP l o.n.toNat) l.length
def NBp (l : List Ent) (o : Opt) : Nat := (cuts o.b.toNat (prsE l)).length
end Go.Proofs.YtlobnbbndkhcbaaGreatDoor

/- Contracts of layer 3's functions that make a key's bytes: putUser, putTail, Bytes. -/
namespace Go.Proofs.YtlobnbbndkhcbaaGreatDoor
set_option linter.unusedVariables false
open Go.RowKit

theorem Rd.two (w : World) (t : TypeId) (c d : UInt8) : Rd (w.alloc (.cells #[.int .u8 (c.toNat : Int), .int .u8 (d.toNat : Int)] t)) (some ⟨w.heap.size, 0, none⟩) [c, d] := fun _ => by
  refine ⟨_, _, rfl, fun i hi => ?_⟩
  have h : i = 0 ∨ i = 1 := by simp at hi; omega
  rcases h with rfl | rfl
  · exact At.cell (At.new w t #[.int .u8 (c.toNat : Int), .int .u8 (d.toNat : Int)]) 0
  · exact At.cell (At.new w t #[.int .u8 (c.toNat : Int), .int .u8 (d.toNat : Int)]) 1
/-- APPEND OF TWO BYTES, which lie in a new block of their own. -/
theorem Row.push2 {w : World} {S : Nat → Prop} {v : Value} {l : List UInt8} (h : Row w S v l) (hS : ∀ k, S k → k < w.heap.size) (c d : UInt8) (hb : l.length + 1 < 140737488355328) :
    ∃ v' w', (Builtin.append_ #[27, 27] 27 #[v, .slice (some ⟨w.heap.size, 0, none⟩) 2 2]).run Tryz.prog (w.alloc (.cells #[.int .u8 (c.toNat : Int), .int .u8 (d.toNat : Int)] 5)) = .ok v' w' ∧ Row w' (Gr S w w') v' (l ++ [c, d]) ∧ Fr S w w' := by
  have f := (Fr.refl No w).alloc (.cells #[.int .u8 (c.toNat : Int), .int .u8 (d.toNat : Int)] 5)
  obtain ⟨v', w', h1, h2, h3⟩ := (h.keep f fun _ _ h => h).append (some ⟨w.heap.size, 0, none⟩) 2 2 [c, d] rfl (Rd.two w _ c d) (by omega)
  refine ⟨v', w', h1, h2.sub fun k _ hk => ?_, (f.sub fun _ _ h => h.elim).then_ h3 fun _ _ h => h⟩
  rcases hk with hk | hk
  · exact .inl hk
  · exact .inr ⟨by have := f.size; omega, hk.2⟩
theorem gr_lt {w wr : World} : ∀ k, Gr No w wr k → k < wr.heap.size := fun k hk => by
  rcases hk with hk | hk
  · exact hk.elim
  · exact hk.2
theorem escs_take (l : List UInt8) (k : Nat) (h : k < l.length) : escs (l.take (k + 1)) = escs (l.take k) ++ esc (l.getD k 0) := by
  rw [List.take_add_one, escs_append]
  congr 1
  simp [List.getD, List.getElem?_eq_getElem h, escs]
theorem escs_take_len (l : List UInt8) (k : Nat) (h : k ≤ 1000) : (escs (l.take k)).length ≤ 2000 := by
  have h1 := escs_length (l.take k)
  have h2 : (l.take k).length ≤ k := by simp; omega
  omega

set_option maxRecDepth 20000 in
set_option maxHeartbeats 800000 in
theorem putUser_c (s : ByteArray) (hs : s.size ≤ 1000) (w : World) :
    Calls Tryz.prog 100 #[.slice none 0 0, .string s] w (NewRow (escs s.data.toList ++ [0, 1]) w) := by
  go_enter Tryz.func100, Tryz.ntmps100
  go_wp2_with fail
  go_loopw [0, 8] (fun b i wr => ∃ k : Nat, i = .int .i64 k ∧ k ≤ s.size ∧ Row wr (Gr No w wr) b (escs (s.data.toList.take k)) ∧ Fr No w wr) (fun _ i _ => s.size - (intOf i).toNat)
  case atStart => exact ⟨0, rfl, Nat.zero_le _, by simpa [escs_nil] using Row.nil _ _, Fr.refl _ _⟩
  case round =>
    obtain ⟨k, rfl, hk, hrow, hfr⟩ := hrel
    have hlen := escs_take_len s.data.toList k (by omega)
    by_cases h1 : k < s.size
    · have et := escs_take s.data.toList k (by rw [ba_len]; exact h1)
      rw [ba_getD s k h1] at et
      obtain ⟨v1, w1, hrun, hrow1, hfr1⟩ := hrow.push gr_lt s[k] (by omega)
      have hrow1 := hrow1.join hfr.size hfr1.size
      have hfr1 := hfr.then_ hfr1 fun k hk h => Gr.old hk h
      by_cases h2 : s[k] = 0
      · have h2' : s[k].toNat = 0 := by rw [h2]; rfl
        obtain ⟨v2, w2, hrun2, hrow2, hfr2⟩ := hrow1.push gr_lt 255 (by simp; omega)
        rw [esc, if_pos h2] at et
        rw [h2', show ((0 : Nat) : Int) = 0 from rfl] at hrun
        rw [show (((255 : UInt8).toNat : Nat) : Int) = 255 from rfl] at hrun2
        have HR1 := Lib.hid hrun
        have HR2 := Lib.hid hrun2
        have hrow2 := hrow2.join hfr1.size hfr2.size
        rw [h2, List.append_assoc] at hrow2
        have HW := Lib.hid (show Row w2 (Gr No w w2) v2 (escs (s.data.toList.take (k + 1))) from et ▸ hrow2)
        have HF := Lib.hid (hfr1.then_ hfr2 fun k hk h => Gr.old hk h)
        clear hrun hrun2 hrow hrow1 hrow2 hfr hfr1 hfr2 et hlen
        go_wp2_with (at_builtin; first | refine wpList_append_run rfl _ _ 27 rfl rfl rfl HR1.out ?_ | refine wpList_append_run rfl _ _ 27 rfl rfl rfl HR2.out ?_)
        go_roundw
        case rel => exact ⟨k + 1, by simp, by omega, HW.out, HF.out⟩
        case measure => simp [intOf]; omega
      · have h2' : ¬ s[k].toNat = 0 := fun e => h2 (UInt8.toNat_inj.1 e)
        rw [esc, if_neg h2] at et
        have HR1 := Lib.hid hrun
        have HW := Lib.hid (show Row w1 (Gr No w w1) v1 (escs (s.data.toList.take (k + 1))) from et ▸ hrow1)
        have HF := Lib.hid hfr1
        clear hrun hrow hrow1 hfr hfr1 et hlen
        go_wp2_with (at_builtin; refine wpList_append_run rfl _ _ 27 rfl rfl rfl HR1.out ?_)
        go_roundw
        case rel => exact ⟨k + 1, by simp, by omega, HW.out, HF.out⟩
        case measure => simp [intOf]; omega
    · have hk2 : k = s.size := by omega
      subst hk2
      obtain ⟨v1, w1, hrun, hrow1, hfr1⟩ := hrow.push2 gr_lt 0 1 (by omega)
      rw [show (((0 : UInt8).toNat : Nat) : Int) = 0 from rfl, show (((1 : UInt8).toNat : Nat) : Int) = 1 from rfl] at hrun
      have hrow1 := hrow1.join hfr.size hfr1.size
      rw [List.take_of_length_le (by rw [ba_len]; omega)] at hrow1
      have HR1 := Lib.hid hrun
      have HN : Hid (NewRow (escs s.data.toList ++ [0, 1]) w (.returned v1) w1) := Lib.hid ⟨_, rfl, hrow1, hfr.then_ hfr1 fun k hk h => Gr.old hk h⟩
      clear hrun hrow hrow1 hfr hfr1 hlen
      go_wp2_with (at_builtin; refine wpList_append_run rfl _ _ 27 rfl rfl rfl HR1.out ?_)
      go_ret
      exact HN.out

/-- A row comes back: what it was, and more. -/
def MoreRow (S : Nat → Prop) (l : List UInt8) (w : World) (e : Ending) (w' : World) : Prop := ∃ v, e = .returned v ∧ Row w' (Gr S w w') v l ∧ Fr S w w'
theorem six_take (n i : Nat) (h : i < 6) : (six n).take (i + 1) = (six n).take i ++ [(six n).getD i 0] := by
  rw [List.take_add_one]
  congr 1
  simp [List.getD, List.getElem?_eq_getElem (show i < (six n).length from h)]

theorem six_at (n j : Nat) (hn : n ≤ 1099511627776) (h : j < 6) : (j = 0 ∧ (((six n).getD j 0).toNat : Int) = (n : Int) / 1099511627776) ∨ (j = 1 ∧ (((six n).getD j 0).toNat : Int) = (n : Int) / 4294967296 % 256) ∨ (j = 2 ∧ (((six n).getD j 0).toNat : Int) = (n : Int) / 16777216 % 256) ∨
    (j = 3 ∧ (((six n).getD j 0).toNat : Int) = (n : Int) / 65536 % 256) ∨ (j = 4 ∧ (((six n).getD j 0).toNat : Int) = (n : Int) / 256 % 256) ∨ (j = 5 ∧ (((six n).getD j 0).toNat : Int) = (n : Int) % 256) := by
  have hc : j = 0 ∨ j = 1 ∨ j = 2 ∨ j = 3 ∨ j = 4 ∨ j = 5 := by omega
  rcases hc with rfl | rfl | rfl | rfl | rfl | rfl
  · refine .inl ⟨rfl, ?_⟩
    show ((UInt8.ofNat (n / 1099511627776)).toNat : Int) = _
    rw [toNat_ofNat8]; omega
  · refine .inr (.inl ⟨rfl, ?_⟩)
    show ((UInt8.ofNat (n / 4294967296)).toNat : Int) = _
    rw [toNat_ofNat8]; omega
  · refine .inr (.inr (.inl ⟨rfl, ?_⟩))
    show ((UInt8.ofNat (n / 16777216)).toNat : Int) = _
    rw [toNat_ofNat8]; omega
  · refine .inr (.inr (.inr (.inl ⟨rfl, ?_⟩)))
    show ((UInt8.ofNat (n / 65536)).toNat : Int) = _
    rw [toNat_ofNat8]; omega
  · refine .inr (.inr (.inr (.inr (.inl ⟨rfl, ?_⟩))))
    show ((UInt8.ofNat (n / 256)).toNat : Int) = _
    rw [toNat_ofNat8]; omega
  · refine .inr (.inr (.inr (.inr (.inr ⟨rfl, ?_⟩))))
    show ((UInt8.ofNat n).toNat : Int) = _
    rw [toNat_ofNat8]; omega
set_option maxRecDepth 20000 in
set_option maxHeartbeats 1600000 in
theorem putTail_c (S : Nat → Prop) (a : Option Addr) (len cap : Nat) (l : List UInt8) (n : Nat) (q k : Int) (w : World) (hS : ∀ k, S k → k < w.heap.size) (hl : l.length ≤ 10000) (hrow : Row w S (.slice a len cap) l)
    (hq : 1099511627776 - q = (n : Int)) (hn : n ≤ 1099511627776) (h5 : 1 ≤ k) (h6 : k ≤ 3) :
    Calls Tryz.prog 99 #[.slice a len cap, .int .i64 q, .int .i64 k] w (MoreRow S (l ++ (six n ++ [UInt8.ofNat (255 - k).toNat])) w) := by
  have HROW := Lib.hid hrow
  clear hrow
  go_enter Tryz.func99, Tryz.ntmps99
  go_wp2_with fail
  go_loopw [0, 11] (fun b i wr => ∃ j : Nat, i = .int .i64 j ∧ j ≤ 6 ∧ Row wr (Gr S w wr) b (l ++ (six n).take j) ∧ Fr S w wr) (fun _ i _ => 6 - (intOf i).toNat)
  case atStart => exact ⟨0, rfl, by omega, by simpa using HROW.out.sub fun k _ h => .inl h, Fr.refl _ _⟩
  case round =>
    obtain ⟨j, rfl, hj, hrow, hfr⟩ := hrel
    have hgl : ∀ k, Gr S w wr k → k < wr.heap.size := fun k hk => by
      rcases hk with hk | hk
      · exact Nat.lt_of_lt_of_le (hS k hk) hfr.size
      · exact hk.2
    by_cases h1 : j < 6
    · obtain ⟨v1, w1, hrun, hrow1, hfr1⟩ := hrow.push hgl ((six n).getD j 0) (by simp [six_length]; omega)
      have hrow1 := hrow1.join hfr.size hfr1.size
      rw [List.append_assoc, ← six_take n j h1] at hrow1
      have HR1 := Lib.hid hrun
      have HW := Lib.hid hrow1
      have HF := Lib.hid (hfr.then_ hfr1 fun k hk h => Gr.old hk h)
      clear hrun hrow hrow1 hfr hfr1
      have hc : (j = 0 ∧ (((six n).getD j 0).toNat : Int) = (n : Int) / 1099511627776) ∨ (j = 1 ∧ (((six n).getD j 0).toNat : Int) = (n : Int) / 4294967296 % 256) ∨ (j = 2 ∧ (((six n).getD j 0).toNat : Int) = (n : Int) / 16777216 % 256) ∨
          (j = 3 ∧ (((six n).getD j 0).toNat : Int) = (n : Int) / 65536 % 256) ∨ (j = 4 ∧ (((six n).getD j 0).toNat : Int) = (n : Int) / 256 % 256) ∨ (j = 5 ∧ (((six n).getD j 0).toNat : Int) = (n : Int) % 256) := six_at n j hn h1
      rcases hc with ⟨rfl, hc⟩ | ⟨rfl, hc⟩ | ⟨rfl, hc⟩ | ⟨rfl, hc⟩ | ⟨rfl, hc⟩ | ⟨rfl, hc⟩
      all_goals
        rw [hc] at HR1
        clear hc
        go_wp2_with (at_builtin; refine wpList_append_run rfl _ _ 27 rfl rfl rfl HR1.out ?_)
        go_roundw
        case rel => exact ⟨_, rfl, by decide, HW.out, HF.out⟩
        case measure => simp [intOf]
    · have hj6 : j = 6 := by omega
      subst hj6
      obtain ⟨v1, w1, hrun, hrow1, hfr1⟩ := hrow.push hgl (UInt8.ofNat (255 - k).toNat) (by simp [six_length]; omega)
      have hrow1 := hrow1.join hfr.size hfr1.size
      rw [List.take_of_length_le (by rw [six_length]; omega), List.append_assoc] at hrow1
      rw [toNat_ofNat8, show (((255 - k).toNat % 256 : Nat) : Int) = 255 - k by omega] at hrun
      have HR1 := Lib.hid hrun
      have HN : Hid (MoreRow S (l ++ (six n ++ [UInt8.ofNat (255 - k).toNat])) w (.returned v1) w1) := Lib.hid ⟨_, rfl, hrow1, hfr.then_ hfr1 fun k hk h => Gr.old hk h⟩
      clear hrun hrow hrow1 hfr hfr1
      go_wp2_with (at_builtin; refine wpList_append_run rfl _ _ 27 rfl rfl rfl HR1.out ?_)
      go_ret
      exact HN.out

end Go.Proofs.YtlobnbbndkhcbaaGreatDoor

/- Contracts of layer 3's Bytes. -/
namespace Go.Proofs.YtlobnbbndkhcbaaGreatDoor
set_option linter.unusedVariables false
open Go.RowKit

/-- BYTES of a right key. -/
theorem encK_of (u : List UInt8) (q k : Int) (n : Nat) (h : 1099511627776 - q = (n : Int)) : (escs u ++ [0, 1]) ++ (six n ++ [UInt8.ofNat (255 - k).toNat]) = encK u q k := by
  unfold encK tailB
  rw [h, List.append_assoc]
  rfl
def BytesRetK (l : List UInt8) (w : World) (e : Ending) (w' : World) : Prop := ∃ a cap, e = .returned (.tuple #[.slice a l.length cap, .int .i64 0]) ∧ Row w' (Gr No w w') (.slice a l.length cap) l ∧ Fr No w w'
set_option maxRecDepth 20000 in
set_option maxHeartbeats 800000 in
theorem bytes_yes (s : ByteArray) (q k : Int) (w : World) (h : Rt s.size q k) :
    Calls Tryz.prog 66 #[.agg #[.string s, .int .i64 q, .int .i64 k]] w (BytesRetK (encK s.data.toList q k) w) := by
  have C0 := Lib.hid (fun w => check_yes s q k w h)
  obtain ⟨h1, h2, h3, h4, h5, h6⟩ := h
  have C1 := fun w => putUser_c s (by omega) w
  obtain ⟨n, hn⟩ : ∃ n : Nat, 1099511627776 - q = (n : Int) := ⟨(1099511627776 - q).toNat, by omega⟩
  have C2 := fun S a len cap l w hS hl hrow => putTail_c S a len cap l n q k w hS hl hrow hn (by omega) h5 h6
  have hE := encK_of s.data.toList q k n hn
  have hlen : (escs s.data.toList ++ [0, 1]).length ≤ 10000 := by
    have := escs_length s.data.toList
    rw [ba_len] at this
    simp
    omega
  clear hn h1 h2 h3 h4 h5 h6
  generalize escs s.data.toList ++ [0, 1] = X at C1 hE hlen
  generalize six n ++ [UInt8.ofNat (255 - k).toNat] = T at C2 hE
  replace C2 := fun a cap (w w0 : World) (hrow : Row w (Gr No w0 w) (.slice a X.length cap) X) => C2 (Gr No w0 w) a X.length cap X w gr_lt hlen hrow
  rw [hE] at C2
  generalize encK s.data.toList q k = Y at C2 ⊢
  replace C1 := Lib.hid C1
  replace C2 := Lib.hid C2
  clear hE hlen T
  go_enter Tryz.func66, Tryz.ntmps66
  go_wp2_with fail
  have A1 : At _ w.heap.size _ _ := At.new w 46 #[.string s, .int .i64 q, .int .i64 k]
  have hf0 := (Fr.refl No w).alloc (.cells #[.string s, .int .i64 q, .int .i64 k] 46)
  generalize w.alloc (.cells #[.string s, .int .i64 q, .int .i64 k] 46) = W at *
  refine (C0.out _).mono ?_
  rintro e w1 ⟨rfl, hf1⟩
  have A2 := A1.keep hf1 (fun h => h)
  have a0 := A2.cell 0
  have a1 := A2.cell 1
  have a2 := A2.cell 2
  simp at a0 a1 a2
  have F1 := Lib.hid (hf0.trans hf1)
  have HB := Lib.hid (show w.heap.size < w1.heap.size from A2.lt)
  clear A1 A2 hf0 hf1
  go_wp2_with fail
  go_region_held3 (fun w' => w'.cell? ⟨w.heap.size, 0, none⟩ = some (.string s) ∧ w'.cell? ⟨w.heap.size, 1, none⟩ = some (.int .i64 q) ∧ w'.cell? ⟨w.heap.size, 2, none⟩ = some (.int .i64 k)) (first | assumption | go_keep)
    (first
      | (go_at_call 100; refine (C1.out _).mono ?_; intro e w2 hret; obtain ⟨v, rfl, hrow, hf⟩ := hret; obtain ⟨a, cap, rfl, _, _, _⟩ := hrow.form
         have c0 := hf.cell (p := ⟨w.heap.size, 0, none⟩) (v := .string s) a0 (fun h => h)
         have c1 := hf.cell (p := ⟨w.heap.size, 1, none⟩) (v := .int .i64 q) a1 (fun h => h)
         have c2 := hf.cell (p := ⟨w.heap.size, 2, none⟩) (v := .int .i64 k) a2 (fun h => h)
         have HF1 := Lib.hid hf
         have HW := Lib.hid hrow
         clear hrow hf)
      | (go_at_call 99; refine (C2.out _ _ _ _ HW.out).mono ?_; intro e w3 hret; obtain ⟨v, rfl, hrow, hf⟩ := hret; obtain ⟨a, cap, rfl, _, _, _⟩ := hrow.form
         have hno : ¬ Gr No w1.drew w2 w.heap.size := fun h => by
           rcases h with h | h
           · exact h
           · exact absurd h.1 (Nat.not_le_of_lt HB.out)
         have d0 := hf.cell (p := ⟨w.heap.size, 0, none⟩) (v := .string s) c0 hno
         have d1 := hf.cell (p := ⟨w.heap.size, 1, none⟩) (v := .int .i64 q) c1 hno
         have d2 := hf.cell (p := ⟨w.heap.size, 2, none⟩) (v := .int .i64 k) c2 hno
         have HF3 := Lib.hid (F1.out.drew.trans (HF1.out.then_ hf fun k hk h => Gr.old hk h))
         have HW3 := Lib.hid (show Row w3 (Gr No w w3) _ _ from (hrow.join HF1.out.size hf.size).sub (fun k hk h => by
           rcases h with h | h
           · exact h.elim
           · exact .inr ⟨Nat.le_trans F1.out.size h.1, hk⟩))
         clear hrow hf hno))
  go_wp2_with fail
  go_ret2
  exact ⟨_, _, rfl, HW3.out, HF3.out⟩
theorem bytes_no (s : ByteArray) (q k : Int) (w : World) (h : ¬ Rt s.size q k) :
    Calls Tryz.prog 66 #[.agg #[.string s, .int .i64 q, .int .i64 k]] w (PlainRet (.tuple #[.slice none 0 0, .int .i64 30]) w) := by
  have C0 := Lib.hid (fun w => check_no s q k w h)
  clear h
  go_enter Tryz.func66, Tryz.ntmps66
  go_wp2_with fail
  have hf0 := (Fr.refl No w).alloc (.cells #[.string s, .int .i64 q, .int .i64 k] 46)
  refine (C0.out _).mono ?_
  rintro e w1 ⟨rfl, hf1⟩
  have F1 := Lib.hid (hf0.trans hf1)
  clear hf0 hf1
  go_wp2_with fail
  go_ret2
  exact ⟨rfl, F1.out⟩
end Go.Proofs.YtlobnbbndkhcbaaGreatDoor
