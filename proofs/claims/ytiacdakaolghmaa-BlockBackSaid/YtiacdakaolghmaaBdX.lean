/-
  Layer 12, the program's own: a block in memory (Bk); Len, Every, Restarts; bytes.
-/
import Derived.Test.YtiacdakaolghmaaBdA
import Derived.Test.YtiacdakaolghmaaMemI
namespace Go.Proofs.Ytiacdakaolghmaa
set_option linter.unusedVariables false
open Go.RowKit

def nI (l : List Nat) : List Int := l.map Int.ofNat
theorem nI_len (l : List Nat) : (nI l).length = l.length := by simp [nI]
theorem nI_get (l : List Nat) (i : Nat) : (nI l).getD i 0 = ((l.getD i 0 : Nat) : Int) := by
  unfold nI
  simp only [List.getD_eq_getElem?_getD, List.getElem?_map]
  cases l[i]? <;> rfl
/-- Numbers that are read, within S. -/
def InI (w : World) (S : Nat → Prop) (a : Option Addr) (l : List Nat) : Prop := 0 < l.length → ∃ b o, S b ∧ a = some ⟨b, o, none⟩ ∧ ∀ i, i < l.length → w.cell? ⟨b, o + i, none⟩ = some (.int .i64 (l.getD i 0 : Nat))
theorem InI.keep {w w' : World} {S T : Nat → Prop} {a : Option Addr} {l : List Nat} (h : InI w S a l) (f : Fr T w w') (hn : ∀ k, S k → ¬ T k) : InI w' S a l := fun hl => by
  obtain ⟨b, o, hb, ha, hc⟩ := h hl
  exact ⟨b, o, hb, ha, fun i hi => f.cell (hc i hi) (hn b hb)⟩
theorem RowI.inI {w : World} {S : Nat → Prop} {v : Value} {l : List Nat} (h : RowI w S v (nI l)) : ∃ a c, v = .slice a l.length c ∧ l.length ≤ c ∧ c ≤ maxLen ∧ InI w S a l := by
  obtain ⟨a, c, rfl, h1, h2, h3⟩ := h.form
  rw [nI_len] at h1 h3 ⊢
  refine ⟨a, c, rfl, h1, h2, fun hl => ?_⟩
  obtain ⟨b, o, hb, ha, hc⟩ := h3 hl
  exact ⟨b, o, hb, ha, fun i hi => by rw [hc i hi, nI_get]⟩
/-- What a block's numbers may be. -/
structure Fit (l : List Pr) (e : Nat) : Prop where
  e1 : 1 ≤ e
  e2 : e ≤ 64
  ord : ordP l
  low : Low 100000 l
  len : l.length ≤ 40000
theorem Fit.pairs {l : List Pr} {e : Nat} (h : Fit l e) (k : Nat) (hk : k ≤ l.length) : (pairsB e l k).length ≤ 10000000000 := by
  have h1 := pairsB_len e l 100000 (by omega) h.low k hk
  have h2 := h.len
  have h3 : k * (27 + 2 * 100000) ≤ 40000 * (27 + 2 * 100000) := Nat.mul_le_mul_right _ (by omega)
  omega
theorem Fit.starts {l : List Pr} {e : Nat} (h : Fit l e) : (startsN e l l.length).length ≤ 40000 := Nat.le_trans (startsN_len e l l.length) h.len
/-- A BLOCK IN MEMORY, its bytes and its restarts' row. -/
structure BkAt (w : World) (x : Nat) (F : Nat → Prop) (p : ByteArray) (a : Option Addr) (c : Nat) (l : List Pr) (e : Nat) : Prop where
  hd : At w x 64 #[.string p, .slice a (startsN e l l.length).length c, .int .i64 (l.length : Int), .int .i64 (e : Int)]
  hp : bs p = pairsB e l l.length
  hc : (startsN e l l.length).length ≤ c ∧ c ≤ maxLen
  hi : InI w F a (startsN e l l.length)
  ft : Fit l e
def Bk (w : World) (x : Nat) (F : Nat → Prop) (l : List Pr) (e : Nat) : Prop := F x ∧ (∀ k, F k → k < w.heap.size) ∧ ∃ p a c, BkAt w x F p a c l e
theorem BkAt.keep {w w' : World} {x : Nat} {F T : Nat → Prop} {p : ByteArray} {a : Option Addr} {c : Nat} {l : List Pr} {e : Nat} (h : BkAt w x F p a c l e) (f : Fr T w w') (hx : ¬ T x) (hn : ∀ k, F k → ¬ T k) : BkAt w' x F p a c l e :=
  ⟨h.hd.keep f hx, h.hp, h.hc, h.hi.keep f hn, h.ft⟩
theorem Bk.keep {w w' : World} {x : Nat} {F T : Nat → Prop} {l : List Pr} {e : Nat} (h : Bk w x F l e) (f : Fr T w w') (hn : ∀ k, F k → ¬ T k) : Bk w' x F l e := by
  obtain ⟨h1, h2, p, a, c, h3⟩ := h
  exact ⟨h1, fun k hk => Nat.lt_of_lt_of_le (h2 k hk) f.size, p, a, c, h3.keep f (hn x h1) hn⟩
theorem BkAt.size {w : World} {x : Nat} {F : Nat → Prop} {p : ByteArray} {a : Option Addr} {c : Nat} {l : List Pr} {e : Nat} (h : BkAt w x F p a c l e) : p.size ≤ 10000000000 := by
  rw [← bs_length, h.hp]
  exact h.ft.pairs _ (Nat.le_refl _)
set_option maxHeartbeats 400000 in
theorem blen_c {w : World} {x : Nat} {F : Nat → Prop} {l : List Pr} {e : Nat} (h : Bk w x F l e) : Calls Try.prog 17 #[.pointer (some ⟨x, 0, none⟩)] w (PlainRet (.int .i64 (l.length : Int)) w) := by
  obtain ⟨_, _, p, a, c, h⟩ := h
  have c0 : w.cell? ⟨x, 2, none⟩ = some (.int .i64 (l.length : Int)) := h.hd.cell 2
  clear h
  generalize l.length = n at *
  go_enter Try.func17, Try.ntmps17
  go_wp2_with fail
  go_ret
  exact ⟨rfl, Fr.refl _ _⟩
set_option maxHeartbeats 400000 in
theorem bevery_c {w : World} {x : Nat} {F : Nat → Prop} {l : List Pr} {e : Nat} (h : Bk w x F l e) : Calls Try.prog 18 #[.pointer (some ⟨x, 0, none⟩)] w (PlainRet (.int .i64 (e : Int)) w) := by
  obtain ⟨_, _, p, a, c, h⟩ := h
  have c0 : w.cell? ⟨x, 3, none⟩ = some (.int .i64 (e : Int)) := h.hd.cell 3
  clear h
  go_enter Try.func18, Try.ntmps18
  go_wp2_with fail
  go_ret
  exact ⟨rfl, Fr.refl _ _⟩
set_option maxHeartbeats 400000 in
theorem brestarts_c {w : World} {x : Nat} {F : Nat → Prop} {l : List Pr} {e : Nat} (h : Bk w x F l e) : Calls Try.prog 20 #[.pointer (some ⟨x, 0, none⟩)] w (PlainRet (.int .i64 ((startsN e l l.length).length : Int)) w) := by
  obtain ⟨_, _, p, a, c, h⟩ := h
  have c0 : w.cell? ⟨x, 1, none⟩ = some (.slice a (startsN e l l.length).length c) := h.hd.cell 1
  clear h
  generalize (startsN e l l.length).length = n at *
  go_enter Try.func20, Try.ntmps20
  go_wp2_with fail
  go_ret
  exact ⟨rfl, Fr.refl _ _⟩
theorem take_nat (l : List Nat) (k : Nat) (h : k < l.length) : l.take (k + 1) = l.take k ++ [l.getD k 0] := by
  rw [List.take_add_one, List.getElem?_eq_getElem h]
  simp [List.getD, h]
theorem wordsB_step (l : List Nat) (k : Nat) (h : k < l.length) : wordsB (l.take (k + 1)) = wordsB (l.take k) ++ word4 (l.getD k 0) := by
  rw [take_nat l k h, wordsB_append, wordsB_one]
/-- Bytes of the call's own come back. -/
def NewZ (l : List UInt8) (w : World) (e : Ending) (w' : World) : Prop := ∃ v, e = .returned v ∧ RowZ w' (Gr No w w') v l ∧ Fr No w w'
set_option maxRecDepth 20000 in
set_option maxHeartbeats 3200000 in
theorem bbytes_c {w : World} {x : Nat} {F : Nat → Prop} {l : List Pr} {e : Nat} (h : Bk w x F l e) :
    Calls Try.prog 29 #[.pointer (some ⟨x, 0, none⟩)] w (NewZ (blockB e l) w) := by
  obtain ⟨_, _, p, a, c, h⟩ := h
  have c0 : w.cell? ⟨x, 0, none⟩ = some (.string p) := h.hd.cell 0
  have c1 : w.cell? ⟨x, 1, none⟩ = some (.slice a (startsN e l l.length).length c) := h.hd.cell 1
  have c3 : w.cell? ⟨x, 3, none⟩ = some (.int .i64 (e : Int)) := h.hd.cell 3
  have hps := h.size
  have hst := h.ft.starts
  have he2 := h.ft.e2
  have HB : Hid (blockB e l = ((bs p ++ wordsB (startsN e l l.length)) ++ word4 (startsN e l l.length).length) ++ [UInt8.ofNat e]) := Lib.hid (by rw [h.hp]; rfl)
  have HI := Lib.hid h.hi
  have HC3 := Lib.hid c3
  generalize startsN e l l.length = q at *
  obtain ⟨v0, w0, hrun, r0, f0⟩ := conv_strZ w p (by unfold maxLen; omega)
  obtain ⟨a0, n0, k0, rfl⟩ := r0.shape
  have HRUN := Lib.hid hrun
  have HR0 := Lib.hid r0
  have HF0 := Lib.hid f0
  have d1 := f0.cell c1 (fun h => h)
  have HBL : Hid (∀ k, k ≤ q.length → ((bs p ++ wordsB (q.take k)) ++ word4 0).length ≤ 20000000000) := Lib.hid fun k hk => by
    simp only [List.length_append, wordsB_len, List.length_take, bs_length, word4_len]
    omega
  have HE : Hid (((UInt8.ofNat e).toNat : Int) = (e : Int)) := Lib.hid (by rw [toNat_ofNat (by omega)])
  have hew : IntKind.u8.wrap (e : Int) = (e : Int) := by
    simp [IntKind.wrap, IntKind.signed, IntKind.bits]
    omega
  have HSTEP := Lib.hid (fun k (h : k < q.length) => wordsB_step q k h)
  have HTK := Lib.hid (List.take_length (l := q))
  obtain ⟨m, hm⟩ : ∃ m, q.length = m := ⟨_, rfl⟩
  rw [hm] at c1 d1 hst HBL HSTEP HTK
  have HM := Lib.hid hm
  have hmw : IntKind.u32.wrap (m : Int) = (m : Int) := by
    simp [IntKind.wrap, IntKind.signed, IntKind.bits]
    omega
  clear h hrun r0 f0 hm
  go_enter Try.func29, Try.ntmps29
  go_wp2_with fail
  rw [HRUN.out]
  go_wp2_with fail
  go_loopw [3, 16] (fun v i wr => ∃ (k : Nat) (a2 : Option Addr) (n2 k2 : Nat), v = .slice a2 n2 k2 ∧ i = .int .i64 k ∧ k ≤ m ∧ RowZ wr (Gr No w wr) (.slice a2 n2 k2) (bs p ++ wordsB (q.take k)) ∧ Fr No w wr) (fun _ i _ => m - (intOf i).toNat)
  case atStart => exact ⟨0, a0, n0, k0, rfl, rfl, Nat.zero_le _, by simpa [wordsB] using HR0.out, HF0.out⟩
  case round =>
    obtain ⟨k, a2, n2, k2, rfl, rfl, hkm, hrow, hfr⟩ := hrel
    have HRW := Lib.hid hrow
    have HF := Lib.hid hfr
    have c1 := hfr.cell c1 (fun h => h)
    have c3 := hfr.cell c3 (fun h => h)
    by_cases hlt : k < m
    · obtain ⟨g, o, _, ha, hx⟩ := HI.out (by rw [HM.out]; omega)
      have hx := hfr.cell (hx k (by rw [HM.out]; exact hlt)) (fun h => h)
      have HST := Lib.hid (HSTEP.out k hlt)
      obtain ⟨z, hz⟩ : ∃ z, q.getD k 0 = z := ⟨_, rfl⟩
      rw [hz] at hx HST
      have CW := word_b (z % 4294967296) (Nat.mod_lt _ (by decide)) wr
      rw [word4_mod] at CW
      have CW := Lib.hid CW
      have hzw : IntKind.u32.wrap (z : Int) = ((z % 4294967296 : Nat) : Int) := by
        simp [IntKind.wrap, IntKind.signed, IntKind.bits]
      generalize z % 4294967296 = zm at *
      subst ha
      clear hrow hfr hz
      go_wp2_with fail
      refine (show Calls _ _ _ _ _ from CW.out).mono ?_
      rintro e1 w1 ⟨v1, rfl, r1, f1⟩
      obtain ⟨a1, cc1, rfl, q1, q2, in1⟩ := r1.form
      rw [word4_len] at q1 ⊢
      have hb := HBL.out k hkm
      rw [List.length_append] at hb
      obtain ⟨v', W, hrun, hrow, hfr2⟩ := (HRW.out.grow f1).more (HF.out.trans f1) a1 4 cc1 (word4 z) (word4_len z) in1.rd (by omega)
      obtain ⟨a3, n3, k3, rfl⟩ := hrow.shape
      have HRUN2 := Lib.hid hrun
      have HRW2 := Lib.hid hrow
      have HF2 := Lib.hid hfr2
      clear hrun hrow hfr2 r1 f1 in1 hb CW
      go_wp2_with (at_builtin; refine wpList_append_run rfl _ _ 25 rfl rfl rfl HRUN2.out ?_)
      go_roundw
      case rel => exact ⟨k + 1, a3, n3, k3, rfl, by simp, by omega, by rw [HST.out, ← List.append_assoc]; exact HRW2.out, HF2.out⟩
      case measure => simp [intOf]; omega
    · have hkm : k = m := by omega
      subst hkm
      have HTKE := HTK.out
      rw [HTKE] at HRW
      have CW := Lib.hid (word_b k (by omega) wr)
      have hb0 := HBL.out k (Nat.le_refl _)
      rw [HTKE, List.length_append] at hb0
      have HB0 := Lib.hid hb0
      clear hrow hfr HTKE hb0
      go_wp2_with fail
      refine (show Calls _ _ _ _ _ from CW.out).mono ?_
      rintro e1 w1 ⟨v1, rfl, r1, f1⟩
      obtain ⟨a1, cc1, rfl, q1, q2, in1⟩ := r1.form
      rw [word4_len] at q1 ⊢
      have hb := HB0.out
      have c3 := f1.cell c3 (fun h => h)
      obtain ⟨v', W, hrun, hrow, hfr2⟩ := (HRW.out.grow f1).more (HF.out.trans f1) a1 4 cc1 (word4 k) (word4_len k) in1.rd (by omega)
      obtain ⟨a3, n3, k3, rfl⟩ := hrow.shape
      have hc3 : W.cell? ⟨x, 3, none⟩ = some (.int .i64 (e : Int)) := hfr2.cell HC3.out (fun h => h)
      obtain ⟨v5, W5, hrun5, hrow5, hfr5⟩ := hrow.more1 hfr2 (UInt8.ofNat e) (e : Int) HE.out (by rw [List.length_append, word4_len]; omega)
      have HRUN2 := Lib.hid hrun
      have HRUN5 := Lib.hid hrun5
      have HFIN : Hid (NewZ (blockB e l) w (.returned v5) W5) := Lib.hid ⟨v5, rfl, by rw [HB.out, HM.out]; exact hrow5, hfr5⟩
      clear hrun hrow hfr2 r1 f1 in1 hb CW hrun5 hrow5 hfr5
      go_wp2_with (at_builtin; first | refine wpList_append_run rfl _ _ 25 rfl rfl rfl HRUN2.out ?_ | refine wpList_append_run rfl _ _ 25 rfl rfl rfl HRUN5.out ?_)
      go_ret
      exact HFIN.out
end Go.Proofs.Ytiacdakaolghmaa
