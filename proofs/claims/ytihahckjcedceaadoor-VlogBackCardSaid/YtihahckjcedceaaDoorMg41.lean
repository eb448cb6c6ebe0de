/-
  Texts of layer 14 and of what it stands on, one behind the other.
-/
import Derived.Test.YtihahckjcedceaaDoorMg38
import Derived.Test.YtihahckjcedceaaDoorMg33
import Derived.Test.YtihahckjcedceaaDoorMg06
import Derived.Test.YtihahckjcedceaaDoorMg26
import Derived.Test.YtihahckjcedceaaDoorMg09
import Derived.Test.YtihahckjcedceaaDoorMg14
import Derived.Test.YtihahckjcedceaaDoorMg34
import Derived.Lib.SmallJoins
import Derived.Deep.Fields

/- Layer 9: what a log's calls mean for a device that has power (mathematics). -/
namespace Go.Proofs.YtihahckjcedceaaDoor
set_option linter.unusedVariables false
open Go.RowKit

/-- A device that has power, and is not armed. -/
structure Live (m : Dev) : Prop where
  wf : WF m
  dn : m.down = false
  ar : m.arm = none
theorem Live.new {z s o : Int} (h : rightG z s o = true) : Live (newM z s o) := ⟨wf_new h, rfl, rfl⟩
theorem Live.cmd {m : Dev} (h : Live m) : cmdM m = true := by unfold cmdM; rw [h.ar]
theorem Live.cmdR {m : Dev} (h : Live m) (e : Int) : cmdR m e = e := by
  unfold Go.Proofs.YtihahckjcedceaaDoor.cmdR
  rw [h.cmd]
  by_cases he : e = 0
  · rw [if_pos he, he]; rfl
  · rw [if_neg he]
theorem pow_live {m : Dev} (h : m.arm = none) : powM m = { m with done := m.done + 1 } := by
  unfold powM
  rw [h]
theorem zone_set (m : Dev) (z y : Int) (x : Zn) (hz : hasZ m z = true) (hy : 0 ≤ y) : zoneM (setZ m z x) y = if y = z then x else zoneM m y := by
  obtain ⟨h0, h1⟩ := hasZ_iff.1 hz
  unfold zoneM setZ
  simp only
  by_cases he : y = z
  · rw [if_pos he, he, List.getD_eq_getElem?_getD, List.getElem?_set_self h1]
    rfl
  · rw [if_neg he, List.getD_eq_getElem?_getD, List.getElem?_set_ne (by omega), ← List.getD_eq_getElem?_getD]
/-- An append: refused, or laid. -/
theorem Live.app {m : Dev} (h : Live m) (z : Int) (b : List UInt8) :
    (appErr m z b ≠ 0 ∧ appM m z b = m) ∨
    (appErr m z b = 0 ∧ hasZ m z = true ∧ (zoneM m z).b.length + b.length ≤ m.size ∧ Live (appM m z b) ∧ (appM m z b).size = m.size ∧ (appM m z b).zs.length = m.zs.length ∧ (appM m z b).opn = m.opn ∧ (appM m z b).done = m.done + 1 ∧
      ∀ y, 0 ≤ y → zoneM (appM m z b) y = if y = z then appZ m z b else zoneM m y) := by
  by_cases he : appErr m z b = 0
  · right
    obtain ⟨h1, h2, h3, h4, h5⟩ := appErr_ok he
    have e : appM m z b = { setZ m z (appZ m z b) with done := m.done + 1 } := by
      unfold appM
      rw [if_pos he, pow_live (by exact h.ar)]
      rfl
    have hw := wf_app h.wf z b
    refine ⟨he, h2, h5, ⟨hw, ?_, ?_⟩, ?_, ?_, ?_, ?_, fun y hy => ?_⟩
    · rw [e]; exact h.dn
    · rw [e]; exact h.ar
    · rw [e]; rfl
    · rw [e]; show (m.zs.set _ _).length = _; rw [List.length_set]
    · rw [e]; rfl
    · rw [e]
    · rw [e]
      exact zone_set m z y _ h2 hy
  · left
    refine ⟨he, ?_⟩
    unfold appM
    rw [if_neg he]
theorem ptr_has {m : Dev} {z : Int} (h : hasZ m z = true) : ptrM m z = ((zoneM m z).b.length : Int) := by unfold ptrM; rw [if_pos h]
theorem rdErr_live {m : Dev} (h : Live m) {z a n : Int} (hz : hasZ m z = true) : rdErr m z a n = 0 ↔ 0 ≤ a ∧ 0 ≤ n ∧ a + n ≤ ((zoneM m z).b.length : Int) := by
  unfold rdErr
  rw [h.dn, hz]
  simp only [Bool.false_eq_true, if_false, Bool.not_true]
  split
  · rename_i hc
    simp only [Bool.or_eq_true, decide_eq_true_eq] at hc
    constructor
    · intro h; omega
    · intro h; omega
  · rename_i hc
    simp only [Bool.or_eq_true, decide_eq_true_eq, not_or] at hc
    constructor
    · intro _; omega
    · intro _; rfl
theorem rdErr_out {m : Dev} {z a n : Int} (hz : hasZ m z = false) : rdErr m z a n ≠ 0 := by
  unfold rdErr
  split
  · omega
  · rw [hz]; simp
/-! ### ReadAt. -/
theorem scan_one (l : List UInt8) (h : l.length ≤ 1000000) : scanL (frameL l) = [l] := scanL_eq (by
    rw [frameL_length]
    have := sizeL_le (n := l.length) (by omega)
    omega) ⟨[], by
  show frameL l = (frameL l ++ []) ++ []
  rw [List.append_nil, List.append_nil], headF_short (by decide)⟩
theorem ra_no {m : Dev} {z t s : Int} (h : (raR m z t s).2 ≠ 0) : (raR m z t s).1 = [] := by
  unfold raR at h ⊢
  split
  · rename_i h1
    rw [if_pos h1] at h
    split
    · rename_i h2
      rw [if_pos h2] at h
      exact absurd rfl h
    · rfl
  · rfl
theorem ra_frame {m : Dev} {z t s : Int} {x : List UInt8} (h : rdErr m z t s = 0) (hb : rdB m z t s = frameL x) (hx : x.length ≤ 1000000) : raR m z t s = (x, 0) := by
  have h1 : (framesL [x]).length = (frameL x).length := by
    show (frameL x ++ []).length = _
    rw [List.append_nil]
  unfold raR
  rw [if_pos h, hb, scan_one x hx, if_pos ⟨rfl, h1⟩]
  rfl
theorem ra_yes {m : Dev} (hw : WF m) {z t s : Int} (h : (raR m z t s).2 = 0) : rdErr m z t s = 0 ∧ ∃ x, rdB m z t s = frameL x ∧ (raR m z t s).1 = x := by
  unfold raR at h ⊢
  by_cases h1 : rdErr m z t s = 0
  · rw [if_pos h1] at h ⊢
    by_cases h2 : (scanL (rdB m z t s)).length = 1 ∧ (framesL (scanL (rdB m z t s))).length = (rdB m z t s).length
    · rw [if_pos h2]
      obtain ⟨x, hx⟩ : ∃ x, scanL (rdB m z t s) = [x] := List.length_eq_one_iff.1 h2.1
      refine ⟨h1, x, ?_, ?_⟩
      · have h3 := (scanL_is (rdB m z t s)).take
        rw [h2.2, List.take_of_length_le (Nat.le_refl _), hx] at h3
        rw [h3]
        exact List.append_nil _
      · rw [hx]; rfl
    · rw [if_neg h2] at h
      cases h
  · rw [if_neg h1] at h
    exact absurd h h1
/-- The number of bytes that is read for a record of n. -/
structure SzOf (n s : Int) : Prop where
  neg : n < 0 → s = 0
  mid : 0 ≤ n → n ≤ 1000000 → s = (sizeL n.toNat : Int)
  big : 1000000 < n → s < 0 ∨ 1000000 < s
theorem szOf_ex (n : Int) (wn : (Lit.int .i64 n).wf = true) : ∃ s, SzOf n s ∧ (Lit.int .i64 s).wf = true ∧ ∀ w, Calls Tryd.prog 23 #[.int .i64 n] w fun e w' => e = .returned (.int .i64 s) ∧ w = w' := by
  by_cases h0 : n < 0
  · exact ⟨0, ⟨fun _ => rfl, fun h => by omega, fun h => by omega⟩, by decide, fun w => fsize_neg n w h0⟩
  · by_cases h1 : n ≤ 1000000
    · obtain ⟨k, rfl⟩ : ∃ k : Nat, n = (k : Int) := ⟨n.toNat, by omega⟩
      have := sizeL_le (n := k) (by omega)
      exact ⟨(sizeL k : Int), ⟨fun h => by omega, fun _ _ => rfl, fun h => by omega⟩, wf_small (by omega) (by omega), fun w => fsize_c k w (by omega)⟩
    · obtain ⟨r, h2, h3, h4⟩ := size_big n (by omega) wn ⟨#[], default, default, default, default⟩
      exact ⟨r, ⟨fun h => by omega, fun _ h => by omega, fun _ => h3⟩, h2, h4⟩
end Go.Proofs.YtihahckjcedceaaDoor

/- Layer 14: the bytes of a pointer: the program's, the document's. -/
namespace Go.Proofs.YtihahckjcedceaaDoor
set_option linter.unusedVariables false
set_option linter.unusedSimpArgs false
open Go.RowKit

set_option maxRecDepth 20000 in
set_option maxHeartbeats 1600000 in
theorem ptext_no (z t n : Int) (w : World) (h : ¬ RtV z t n) : Calls Tryd.prog 9 #[ptV z t n] w (PlainRet (.tuple #[.string ⟨#[]⟩, .int .i64 140]) w) := by
  have C := Lib.hid (fun w => vcheck_c z t n w)
  rw [if_neg h] at C
  obtain ⟨W, hW, hA, hf⟩ := box_pt w z t n
  have c0 := hA.cell 0
  have c1 := hA.cell 1
  have c2 := hA.cell 2
  simp at c0 c1 c2
  have HF := Lib.hid hf
  clear hA hf h
  unfold ptV at C ⊢
  go_enter Tryd.func9, Tryd.ntmps9
  go_wp2_with fail
  try rw [hW]
  refine (C.out W).mono ?_
  rintro e w1 ⟨rfl, hf1⟩
  have HF1 := Lib.hid (HF.out.trans hf1)
  clear hf1
  go_wp2_with fail
  go_ret2
  exact ⟨rfl, HF1.out⟩
set_option maxRecDepth 20000 in
set_option maxHeartbeats 3200000 in
theorem ptext_yes (z t n : Int) (w : World) (h : RtV z t n) : Calls Tryd.prog 9 #[ptV z t n] w (PlainRet (.tuple #[.string (strOf (ptrB z t n)), .int .i64 0]) w) := by
  have C := Lib.hid (fun w => vcheck_c z t n w)
  rw [if_pos h] at C
  obtain ⟨h1, h2, h3, h4, h5, h6⟩ := h
  obtain ⟨kz, rfl⟩ : ∃ k : Nat, z = (k : Int) := ⟨z.toNat, by omega⟩
  obtain ⟨kt, rfl⟩ : ∃ k : Nat, t = (k : Int) := ⟨t.toNat, by omega⟩
  obtain ⟨kn, rfl⟩ : ∃ k : Nat, n = (k : Int) := ⟨n.toNat, by omega⟩
  have HB : Hid (([] ++ enc kz) ++ enc kt ++ enc kn = ptrB kz kt kn) := Lib.hid (by simp [ptrB])
  have e1 := enc_len9 (show kz < 9223372036854775808 by omega)
  have e2 := enc_len9 (show kt < 9223372036854775808 by omega)
  have e3 := enc_len9 (show kn < 9223372036854775808 by omega)
  have HL0 : Hid (([] : List UInt8).length ≤ 1000000) := Lib.hid (by simp)
  have HL1 : Hid (([] ++ enc kz).length ≤ 1000000) := Lib.hid (by simp; omega)
  have HL2 : Hid (([] ++ enc kz ++ enc kt).length ≤ 1000000) := Lib.hid (by simp; omega)
  have HL3 : Hid ((ptrB kz kt kn).length ≤ 1000000) := Lib.hid (by simp [ptrB]; omega)
  have HCV := Lib.hid (fun (w : World) (a : Option Addr) (cap : Nat) (hr : Rd w a (ptrB kz kt kn)) => conv_rd w a (ptrB kz kt kn).length cap (ptrB kz kt kn) rfl hr)
  obtain ⟨W, hW, hA, hf⟩ := box_pt w kz kt kn
  have c0 := hA.cell 0
  have c1 := hA.cell 1
  have c2 := hA.cell 2
  simp at c0 c1 c2
  have HF := Lib.hid hf
  clear hA hf e1 e2 e3
  unfold ptV at C ⊢
  generalize ptrB kz kt kn = P at *
  obtain ⟨L, hL⟩ : ∃ n, P.length = n := ⟨_, rfl⟩
  rw [hL] at HCV HL3
  have HPL := Lib.hid hL
  clear hL
  go_enter Tryd.func9, Tryd.ntmps9
  go_wp2_with fail
  try rw [hW]
  refine (C.out W).mono ?_
  rintro e w1 ⟨rfl, hf1⟩
  have c0 := hf1.cell c0 (fun h => h)
  have c1 := hf1.cell c1 (fun h => h)
  have c2 := hf1.cell c2 (fun h => h)
  have HF1 := Lib.hid (HF.out.trans hf1)
  have HO := Lib.hid (WrO.new w1)
  have HC0 := Lib.hid c0
  have HC1 := Lib.hid c1
  have HC2 := Lib.hid c2
  have f0 := (Fr.refl No w1).alloc (.cells #[.slice none 0 0, .bool false] 75)
  have c0 := f0.cell c0 (fun h => h)
  have c1 := f0.cell c1 (fun h => h)
  have c2 := f0.cell c2 (fun h => h)
  clear hf1 C f0
  go_wp2_with fail
  generalize w1.alloc (.cells #[.slice none 0 0, .bool false] 75) = w2 at *
  go_region_held3 (fun w' => w'.cell? ⟨w.heap.size, 0, none⟩ = some (.int .i64 (kz : Int)) ∧ w'.cell? ⟨w.heap.size, 1, none⟩ = some (.int .i64 (kt : Int)) ∧ w'.cell? ⟨w.heap.size, 2, none⟩ = some (.int .i64 (kn : Int))) (first | assumption | go_keep)
    (first
      | (go_at_call 33; refine (WrO.num (HO.out.no (Fr.refl No _).drew) _ (by omega) (by first | exact HL0.out | exact HL1.out | exact HL2.out)).mono ?_; rintro e w3 ⟨rfl, ho⟩
         have c0 := ho.fr.cell HC0.out (fun h => h)
         have c1 := ho.fr.cell HC1.out (fun h => h)
         have c2 := ho.fr.cell HC2.out (fun h => h)
         have HO := Lib.hid ho
         clear ho)
      | (go_at_call 33; refine (WrO.num HO.out _ (by omega) (by first | exact HL0.out | exact HL1.out | exact HL2.out)).mono ?_; rintro e w3 ⟨rfl, ho⟩
         have c0 := ho.fr.cell HC0.out (fun h => h)
         have c1 := ho.fr.cell HC1.out (fun h => h)
         have c2 := ho.fr.cell HC2.out (fun h => h)
         have HO := Lib.hid ho
         clear ho)
      | (go_at_call 34; rw [HB.out] at HO; refine (WrO.bytes HO.out (by rw [HPL.out]; have := HL3.out; omega)).mono ?_; rintro e w4 ⟨ra, rc, rfl, r1, r2, rrow, rf⟩
         obtain ⟨_, _, e9, _, _, rin⟩ := rrow.form
         obtain ⟨rfl, _, rfl⟩ := Value.slice.inj e9
         have hcv := HCV.out w4 ra rc rin.rd
         have HFE := Lib.hid (HO.out.fr.trans rf)
         have c0 := HFE.out.cell HC0.out (fun h => h)
         have c1 := HFE.out.cell HC1.out (fun h => h)
         have c2 := HFE.out.cell HC2.out (fun h => h)
         rw [HPL.out]
         clear rrow rf e9 rin))
  go_wp2_with fail
  go_ret2
  exact ⟨rfl, HF1.out.trans HFE.out⟩
set_option maxRecDepth 20000 in
set_option maxHeartbeats 1600000 in
theorem refPtext_c (z t n : Int) (w : World) (h : RtV z t n) : Calls Tryd.prog 14 #[.int .i64 z, .int .i64 t, .int .i64 n] w (PlainRet (.string (strOf (ptrB z t n))) w) := by
  obtain ⟨h1, h2, h3, h4, h5, h6⟩ := h
  obtain ⟨kz, rfl⟩ : ∃ k : Nat, z = (k : Int) := ⟨z.toNat, by omega⟩
  obtain ⟨kt, rfl⟩ : ∃ k : Nat, t = (k : Int) := ⟨t.toNat, by omega⟩
  obtain ⟨kn, rfl⟩ : ∃ k : Nat, n = (k : Int) := ⟨n.toNat, by omega⟩
  have HB : Hid (enc kz ++ enc kt ++ enc kn = ptrB kz kt kn) := Lib.hid (by simp [ptrB])
  have e1 := enc_len9 (show kz < 9223372036854775808 by omega)
  have e2 := enc_len9 (show kt < 9223372036854775808 by omega)
  have e3 := enc_len9 (show kn < 9223372036854775808 by omega)
  go_enter Tryd.func14, Tryd.ntmps14
  go_wp2_with fail
  refine (refNumber_c kz w (by omega)).mono ?_
  rintro e w1 ⟨v1, rfl, hrow1, hfr1⟩
  have HR1 := Lib.hid hrow1
  have HF1 := Lib.hid hfr1
  clear hrow1 hfr1
  go_wp2_with fail
  refine (refNumber_c kt w1 (by omega)).mono ?_
  rintro e w2 ⟨v2, rfl, hrow2, hfr2⟩
  obtain ⟨a2, c2, rfl, _, _, hin2⟩ := hrow2.form
  obtain ⟨v3, w3, hrun3, hrow3, hfr3⟩ := (HR1.out.grow hfr2).more (HF1.out.trans hfr2) a2 (enc kt).length c2 (enc kt) rfl hin2.rd (by omega)
  have HRUN3 := Lib.hid hrun3
  have HR3 := Lib.hid hrow3
  have HF3 := Lib.hid hfr3
  have HL3 : Hid ((enc kz ++ enc kt).length ≤ 18) := Lib.hid (by rw [List.length_append]; omega)
  clear hrun3 hrow3 hfr3 hrow2 hfr2 hin2 HR1 HF1
  generalize (enc kt).length = m2 at HRUN3 ⊢
  obtain ⟨q1, q2, q3, rfl⟩ := HR3.out.shape
  go_wp2_with (at_builtin; refine wpList_append_run rfl _ _ 51 rfl rfl rfl HRUN3.out ?_)
  refine (refNumber_c kn w3 (by omega)).mono ?_
  rintro e w4 ⟨v4, rfl, hrow4, hfr4⟩
  obtain ⟨a4, c4, rfl, _, _, hin4⟩ := hrow4.form
  obtain ⟨v5, w5, hrun5, hrow5, hfr5⟩ := (HR3.out.grow hfr4).more (HF3.out.trans hfr4) a4 (enc kn).length c4 (enc kn) rfl hin4.rd (by have := HL3.out; omega)
  rw [HB.out] at hrow5
  obtain ⟨a5, c5, rfl, _, _, hin5⟩ := hrow5.form
  have hcv := conv_rd w5 a5 _ c5 _ rfl hin5.rd
  have HRUN5 := Lib.hid hrun5
  have HF5 := Lib.hid hfr5
  clear hrun5 hrow5 hfr5 hrow4 hfr4 hin4 hin5 HR3 HF3
  generalize (enc kn).length = m4 at HRUN5 ⊢
  generalize (ptrB kz kt kn).length = m5 at *
  go_wp2_with (at_builtin; refine wpList_append_run rfl _ _ 51 rfl rfl rfl HRUN5.out ?_)
  go_ret
  exact ⟨rfl, HF5.out⟩
end Go.Proofs.YtihahckjcedceaaDoor

/- Layer 14: what the laws take, opened. -/
namespace Go.Proofs.YtihahckjcedceaaDoor
set_option linter.unusedVariables false
set_option linter.unusedSimpArgs false
open Go.Joins Go.ChangeShapes Go.WideShapes Go.ChangeAt Go.RowKit Go.Deep

section
variable {H : Type} {enc : TypeId × Value → H} {w : World} {base : Nat} {spare : Nat → Bool} {held : Bool}
set_option maxRecDepth 20000 in
theorem items14_of {fuel : Nat} {v : Value} {y : DataW H × List MemPlace} (h : DataW.trod enc Tryd.prog w base spare held fuel 35 [v] = some y) :
    ∃ a cap l, v = .slice a l.length cap ∧ l.length ≤ cap ∧ cap ≤ maxLen ∧ Ents w (fun _ => True) a l ∧ ∀ x ∈ l, EntWf x := by
  rcases open_slice Tryd.underlying35 h with ⟨hcs, _⟩ | ⟨x, len, cap, m, n, D, Pl, hcs, _, hl, hm, hmm, _, hi⟩
  · cases hcs
    exact ⟨none, 0, [], rfl, Nat.le_refl _, by unfold maxLen; omega, fun h => absurd h (by simp), fun x h => absurd h (List.not_mem_nil)⟩
  · cases hcs
    have hml : len ≤ m := by rw [hmm]; split <;> omega
    have hc : Tryd.prog.cellsOf 45 = 4 := by kernel_rfl
    rw [hc] at hi
    obtain ⟨b, off, spot⟩ := x
    have hspot : 0 < len → spot = none := by
      intro h0
      obtain ⟨cs', h1, h2⟩ := hi 0 (by omega)
      obtain ⟨_, hcl, hat⟩ := World.cells?_some h1
      have h3 := hat 0 (by omega)
      rw [List.getElem?_eq_getElem (show 0 < cs'.length by omega)] at h3
      have := World.cell?_spot h3
      simpa [Addr.add] using this
    have hx : ∀ i, i < len → ∃ x : Ent, spot = none ∧ EntAt w b (off + i * 4) x ∧ EntWf x := by
      intro i hil
      have hs := hspot (by omega)
      subst hs
      obtain ⟨cs', h1, h2⟩ := hi i (by omega)
      obtain ⟨_, hcl, hat⟩ := World.cells?_some h1
      obtain ⟨xs, n', hn', hy, hlen, hyl, hf⟩ := DataW.trod_struct Tryd.underlying45 h2
      have a0 := hat 0 (by omega)
      have a1 := hat 1 (by omega)
      have a2 := hat 2 (by omega)
      have a3 := hat 3 (by omega)
      match cs', hcl with
      | [u0, u1, u2, u3], _ =>
        rw [add_plain, add_plain] at a0 a1 a2 a3
        have f0 := hf 0 _ rfl
        have f1 := hf 1 _ rfl
        match xs, hyl with
        | [x0, x1], _ =>
          have f0 : DataW.trod enc Tryd.prog w base spare held n' 43 [u0, u1, u2] = some x0 := f0
          obtain ⟨ys, n'', hn2, hy2, hlen2, hyl2, hf2⟩ := DataW.trod_struct Tryd.underlying43 f0
          have k0 := hf2 0 _ rfl
          have k1 := hf2 1 _ rfl
          have k2 := hf2 2 _ rfl
          match ys, hyl2 with
          | [y0, y1, y2], _ =>
            obtain ⟨m0, hm0, _, w0⟩ := DataW.trod_string Tryd.underlying9 k0
            obtain ⟨m1, hm1, _, w1⟩ := DataW.trod_int Tryd.underlying3 k1
            obtain ⟨m2, hm2, _, w2⟩ := DataW.trod_int Tryd.underlying3 k2
            obtain ⟨m3, hm3, _, w3⟩ := DataW.trod_string Tryd.underlying9 f1
            have e0 : u0 = .string m0 := by
              have : [u0] = [Value.string m0] := hm0
              simpa using this
            have e1 : u1 = .int .i64 m1 := by
              have : [u1] = [Value.int .i64 m1] := hm1
              simpa using this
            have e2 : u2 = .int .i64 m2 := by
              have : [u2] = [Value.int .i64 m2] := hm2
              simpa using this
            have e3 : u3 = .string m3 := by
              have : [u3] = [Value.string m3] := hm3
              simpa using this
            subst e0 e1 e2 e3
            exact ⟨⟨m0, m1, m2, m3⟩, rfl, ⟨a0, a1, a2, a3⟩, w0, w1, w2, w3⟩
    obtain ⟨l, hll, hlp⟩ := list_of len hx
    refine ⟨some ⟨b, off, spot⟩, cap, l, by rw [hll], by omega, hm, fun h0 => ?_, ?_⟩
    · have hs : spot = none := (hlp 0 (l[0]'h0) (List.getElem?_eq_getElem h0)).1
      subst hs
      exact ⟨b, off, trivial, rfl, fun i hi => (hlp i _ (by rw [getD_ent l i hi]; exact List.getElem?_eq_getElem hi)).2.1⟩
    · intro x hx
      obtain ⟨i, hi, rfl⟩ := List.getElem_of_mem hx
      exact (hlp i _ (List.getElem?_eq_getElem hi)).2.2
set_option maxRecDepth 20000 in
theorem pt_cells {fuel : Nat} {u0 u1 u2 : Value} {y : DataW H × List MemPlace} (h : DataW.trod enc Tryd.prog w base spare held fuel 23 [u0, u1, u2] = some y) :
    ∃ z t n : Int, u0 = .int .i64 z ∧ u1 = .int .i64 t ∧ u2 = .int .i64 n ∧ (Lit.int .i64 z).wf = true ∧ (Lit.int .i64 t).wf = true ∧ (Lit.int .i64 n).wf = true := by
  obtain ⟨ys, n'', hn2, hy2, hlen2, hyl2, hf2⟩ := DataW.trod_struct Tryd.underlying23 h
  have k0 := hf2 0 _ rfl
  have k1 := hf2 1 _ rfl
  have k2 := hf2 2 _ rfl
  match ys, hyl2 with
  | [y0, y1, y2], _ =>
    obtain ⟨m0, hm0, _, w0⟩ := DataW.trod_int Tryd.underlying3 k0
    obtain ⟨m1, hm1, _, w1⟩ := DataW.trod_int Tryd.underlying3 k1
    obtain ⟨m2, hm2, _, w2⟩ := DataW.trod_int Tryd.underlying3 k2
    have e0 : u0 = .int .i64 m0 := by
      have : [u0] = [Value.int .i64 m0] := hm0
      simpa using this
    have e1 : u1 = .int .i64 m1 := by
      have : [u1] = [Value.int .i64 m1] := hm1
      simpa using this
    have e2 : u2 = .int .i64 m2 := by
      have : [u2] = [Value.int .i64 m2] := hm2
      simpa using this
    exact ⟨m0, m1, m2, e0, e1, e2, w0, w1, w2⟩
set_option maxRecDepth 20000 in
theorem keyc_cells {fuel : Nat} {u0 u1 u2 : Value} {y : DataW H × List MemPlace} (h : DataW.trod enc Tryd.prog w base spare held fuel 43 [u0, u1, u2] = some y) :
    ∃ x : Ky, u0 = .string x.u ∧ u1 = .int .i64 x.q ∧ u2 = .int .i64 x.k ∧ x.u.size ≤ maxLen ∧ (Lit.int .i64 x.q).wf = true ∧ (Lit.int .i64 x.k).wf = true := by
  obtain ⟨ys, n'', hn2, hy2, hlen2, hyl2, hf2⟩ := DataW.trod_struct Tryd.underlying43 h
  have k0 := hf2 0 _ rfl
  have k1 := hf2 1 _ rfl
  have k2 := hf2 2 _ rfl
  match ys, hyl2 with
  | [y0, y1, y2], _ =>
    obtain ⟨m0, hm0, _, w0⟩ := DataW.trod_string Tryd.underlying9 k0
    obtain ⟨m1, hm1, _, w1⟩ := DataW.trod_int Tryd.underlying3 k1
    obtain ⟨m2, hm2, _, w2⟩ := DataW.trod_int Tryd.underlying3 k2
    have e0 : u0 = .string m0 := by
      have : [u0] = [Value.string m0] := hm0
      simpa using this
    have e1 : u1 = .int .i64 m1 := by
      have : [u1] = [Value.int .i64 m1] := hm1
      simpa using this
    have e2 : u2 = .int .i64 m2 := by
      have : [u2] = [Value.int .i64 m2] := hm2
      simpa using this
    exact ⟨⟨m0, m1, m2⟩, e0, e1, e2, w0, w1, w2⟩
set_option maxRecDepth 20000 in
theorem pt_of {r : Reach} {b0 : Nat} {v : Value} {d : DataW H} {p : List MemPlace}
    (hv : Value.okWide Tryd.prog w r b0 23 v) (h : DataW.Trod enc Tryd.prog w base spare held 23 v d p) : ∃ z t n : Int, v = ptV z t n := by
  obtain ⟨v0, v1, v2, y0, y1, y2, n, rfl, _, _, h0, h1, h2⟩ := open_agg3 (Tryd.underlying23) (by kernel_rfl) (by kernel_rfl) hv h
  obtain ⟨m0, hm0, _, w0⟩ := DataW.trod_int Tryd.underlying3 h0
  obtain ⟨m1, hm1, _, w1⟩ := DataW.trod_int Tryd.underlying3 h1
  obtain ⟨m2, hm2, _, w2⟩ := DataW.trod_int Tryd.underlying3 h2
  simp only [List.cons.injEq, and_true] at hm0 hm1 hm2
  subst hm0 hm1 hm2
  exact ⟨m0, m1, m2, rfl⟩
set_option maxRecDepth 20000 in
theorem vkey_of {r : Reach} {b0 : Nat} {v : Value} {d : DataW H} {p : List MemPlace}
    (hv : Value.okWide Tryd.prog w r b0 43 v) (h : DataW.Trod enc Tryd.prog w base spare held 43 v d p) : ∃ x : Ky, v = kyV x ∧ x.u.size ≤ maxLen := by
  obtain ⟨v0, v1, v2, y0, y1, y2, n, rfl, _, _, h0, h1, h2⟩ := open_agg3 (Tryd.underlying43) (by kernel_rfl) (by kernel_rfl) hv h
  obtain ⟨s, e0, _, hs⟩ := DataW.trod_string Tryd.underlying9 h0
  obtain ⟨q, e1, _, wq⟩ := DataW.trod_int Tryd.underlying3 h1
  obtain ⟨k, e2, _, wk⟩ := DataW.trod_int Tryd.underlying3 h2
  simp only [List.cons.injEq, and_true] at e0 e1 e2
  subst e0 e1 e2
  exact ⟨⟨s, q, k⟩, rfl, hs⟩
set_option maxRecDepth 100000 in
theorem reading_of {r : Reach} {b0 : Nat} {v : Value} {d : DataW H} {p : List MemPlace}
    (hv : Value.okWide Tryd.prog w r b0 63 v) (h : DataW.Trod enc Tryd.prog w base spare held 63 v d p) :
    ∃ (a : Option Addr) (cap : Nat) (l : List Ent) (ra : Option Addr) (rc : Nat) (rl : List UInt8) (z t n : Int) (x : Ky), v = .agg #[.slice a l.length cap, .slice ra rl.length rc, .int .i64 z, .int .i64 t, .int .i64 n, .string x.u, .int .i64 x.q, .int .i64 x.k] ∧ l.length ≤ cap ∧ cap ≤ maxLen ∧ Ents w (fun _ => True) a l ∧ rl.length ≤ rc ∧ rc ≤ maxLen ∧ Rd w ra rl ∧ (Lit.int .i64 z).wf = true ∧ (Lit.int .i64 t).wf = true ∧ (Lit.int .i64 n).wf = true ∧ x.u.size ≤ maxLen := by
  obtain ⟨cs, rfl, hsz⟩ := okWide_struct Tryd.underlying63 hv
  have hsz6 : cs.size = 8 := hsz.trans (by kernel_rfl)
  obtain ⟨fuel, hf⟩ := h
  obtain ⟨cl⟩ := cs
  match cl, hsz6 with
  | [u0, u1, u2, u3, u4, u5, u6, u7], _ =>
    have hf : DataW.trod enc Tryd.prog w base spare held fuel 63 [u0, u1, u2, u3, u4, u5, u6, u7] = some (d, p) := hf
    obtain ⟨xs, n', hn', hy, hlen, hyl, hff⟩ := DataW.trod_struct Tryd.underlying63 hf
    have k0 := hff 0 _ rfl
    have k1 := hff 1 _ rfl
    have k2 := hff 2 _ rfl
    have k3 := hff 3 _ rfl
    match xs, hyl with
    | [x0, x1, x2, x3], _ =>
      obtain ⟨a, cap, l, e0, g1, g2, g3, g4⟩ := items14_of k0
      obtain ⟨ra, rc, rl, e1, r1, r2, r3⟩ := bytes_of k1
      obtain ⟨z, t, n, e2, e3, e4, wz, wt, wn⟩ := pt_cells k2
      obtain ⟨x, e5, e6, e7, hx, wq, wk⟩ := keyc_cells k3
      have e0 : u0 = .slice a l.length cap := e0
      have e1 : u1 = .slice ra rl.length rc := e1
      subst e0 e1 e2 e3 e4 e5 e6 e7
      exact ⟨a, cap, l, ra, rc, rl, z, t, n, x, rfl, g1, g2, g3, r1, r2, r3, wz, wt, wn, hx⟩
end
end Go.Proofs.YtihahckjcedceaaDoor
