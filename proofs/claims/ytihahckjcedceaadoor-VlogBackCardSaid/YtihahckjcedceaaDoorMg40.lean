/-
  Texts of layer 14 and of what it stands on, one behind the other.
-/
import Derived.Test.YtihahckjcedceaaDoorMg36
import Derived.Test.YtihahckjcedceaaDoorMg38

/- Layer 14: values in memory; the program's own List. -/
namespace Go.Proofs.YtihahckjcedceaaDoor
set_option linter.unusedVariables false
set_option linter.unusedSimpArgs false
open Go.RowKit

/-- A value that was found: its key, its text, its pointer. -/
structure Vl where
  x : Ky
  s : ByteArray
  z : Int
  t : Int
  n : Int
def vl0 : Vl := ⟨ky0, ⟨#[]⟩, 0, 0, 0⟩
def vlC (y : Vl) : List Value := [.string y.x.u, .int .i64 y.x.q, .int .i64 y.x.k, .string y.s, .int .i64 y.z, .int .i64 y.t, .int .i64 y.n]
def vlV (y : Vl) : Value := .agg #[.string y.x.u, .int .i64 y.x.q, .int .i64 y.x.k, .string y.s, .int .i64 y.z, .int .i64 y.t, .int .i64 y.n]
def vlsC (l : List Vl) : List Value := l.flatMap vlC
structure VlAt (w : World) (b o : Nat) (y : Vl) : Prop where
  c0 : w.cell? ⟨b, o, none⟩ = some (.string y.x.u)
  c1 : w.cell? ⟨b, o + 1, none⟩ = some (.int .i64 y.x.q)
  c2 : w.cell? ⟨b, o + 2, none⟩ = some (.int .i64 y.x.k)
  c3 : w.cell? ⟨b, o + 3, none⟩ = some (.string y.s)
  c4 : w.cell? ⟨b, o + 4, none⟩ = some (.int .i64 y.z)
  c5 : w.cell? ⟨b, o + 5, none⟩ = some (.int .i64 y.t)
  c6 : w.cell? ⟨b, o + 6, none⟩ = some (.int .i64 y.n)
/-- VALUES that are read, within blocks of S. -/
def Vls (w : World) (S : Nat → Prop) (a : Option Addr) (l : List Vl) : Prop :=
  0 < l.length → ∃ b o, S b ∧ a = some ⟨b, o, none⟩ ∧ ∀ i, i < l.length → VlAt w b (o + i * 7) (l.getD i vl0)
theorem VlAt.keep {w w' : World} {T : Nat → Prop} {b o : Nat} {x : Vl} (h : VlAt w b o x) (f : Fr T w w') (hn : ¬ T b) : VlAt w' b o x := ⟨f.cell h.c0 hn, f.cell h.c1 hn, f.cell h.c2 hn, f.cell h.c3 hn, f.cell h.c4 hn, f.cell h.c5 hn, f.cell h.c6 hn⟩
theorem Vls.keep {w w' : World} {S T : Nat → Prop} {a : Option Addr} {l : List Vl} (h : Vls w S a l) (f : Fr T w w') (hn : ∀ k, S k → ¬ T k) : Vls w' S a l := fun hl => by
  obtain ⟨b, o, hb, ha, hc⟩ := h hl
  exact ⟨b, o, hb, ha, fun i hi => (hc i hi).keep f (hn b hb)⟩
theorem Vls.sub {w : World} {S T : Nat → Prop} {a : Option Addr} {l : List Vl} (h : Vls w S a l) (hs : ∀ k, k < w.heap.size → S k → T k) : Vls w T a l := fun hl => by
  obtain ⟨b, o, hb, ha, hc⟩ := h hl
  exact ⟨b, o, hs b (cell_block (hc 0 hl).c0) hb, ha, hc⟩
theorem vlsC_length (l : List Vl) : (vlsC l).length = l.length * 7 := by
  induction l with
  | nil => rfl
  | cons p l ih =>
    show (vlC p ++ vlsC l).length = _
    rw [List.length_append, ih, List.length_cons]
    simp [vlC]
    omega
theorem vlsC_get (l : List Vl) : ∀ i, i < l.length → ∀ j, j < 7 → (vlsC l)[i * 7 + j]? = (vlC (l.getD i vl0))[j]? := by
  induction l with
  | nil => intro i h; simp at h
  | cons p l ih =>
    intro i h j hj
    have hl : (vlC p).length = 7 := rfl
    have e : vlsC (p :: l) = vlC p ++ vlsC l := rfl
    rw [e]
    cases i with
    | zero =>
      rw [List.getElem?_append_left (by omega)]
      rw [Nat.zero_mul, Nat.zero_add]
      rfl
    | succ i =>
      rw [List.getElem?_append_right (by omega), show (i + 1) * 7 + j - (vlC p).length = i * 7 + j by omega]
      exact ih i (by simpa using h) j hj
theorem vlsC_append (l m : List Vl) : vlsC (l ++ m) = vlsC l ++ vlsC m := by simp [vlsC]
theorem RowG.vls {w : World} {S : Nat → Prop} {e : TypeId} {v : Value} {l : List Vl} (h : RowG w S e 7 v l.length (vlsC l)) : ∃ a cap, v = .slice a l.length cap ∧ l.length ≤ cap ∧ cap ≤ maxLen ∧ Vls w S a l := by
  obtain ⟨a, cap, rfl, h1, h2, _, h3⟩ := h.form
  refine ⟨a, cap, rfl, h1, h2, fun hl => ?_⟩
  obtain ⟨b, hb, rfl, hc⟩ := h3 hl
  refine ⟨b, 0, hb, rfl, fun i hi => ?_⟩
  have hg := vlsC_get l i hi
  rw [Nat.zero_add]
  exact ⟨(hc (i * 7 + 0) (by omega)).1.trans (hg 0 (by omega)), (hc (i * 7 + 1) (by omega)).1.trans (hg 1 (by omega)), (hc (i * 7 + 2) (by omega)).1.trans (hg 2 (by omega)), (hc (i * 7 + 3) (by omega)).1.trans (hg 3 (by omega)), (hc (i * 7 + 4) (by omega)).1.trans (hg 4 (by omega)), (hc (i * 7 + 5) (by omega)).1.trans (hg 5 (by omega)), (hc (i * 7 + 6) (by omega)).1.trans (hg 6 (by omega))⟩
theorem rowVl : RowT Tryd.prog 56 61 (.agg #[.string ⟨#[]⟩, .int .i64 0, .int .i64 0, .string ⟨#[]⟩, .int .i64 0, .int .i64 0, .int .i64 0]) 7 72 := ⟨Tryd.underlying56, by kernel_rfl, rfl, by decide⟩
theorem push_vl (W0 wr : World) (vo : Value) (m : Nat) (o : List Vl) (y : Vl) (hm : o.length = m) (hrow : RowG wr (Gr No W0 wr) 61 7 vo m (vlsC o)) (hfr : Fr No W0 wr) (hl : m ≤ 1000000) :
    ∃ v' w', (Builtin.append_ #[56, 56] 56 #[vo, .slice (some ⟨wr.heap.size, 0, none⟩) 1 1]).run Tryd.prog (wr.alloc (.cells #[.string y.x.u, .int .i64 y.x.q, .int .i64 y.x.k, .string y.s, .int .i64 y.z, .int .i64 y.t, .int .i64 y.n] 61)) = .ok v' w' ∧
      RowG w' (Gr No W0 w') 61 7 v' (m + 1) (vlsC (o ++ [y])) ∧ Fr No W0 w' := by
  subst hm
  obtain ⟨v', w', h1, h2, h3⟩ := hrow.push rowVl (fun q hq => hq.elim (fun h => h.elim) (fun h => h.2)) (vlC y) rfl (by intro u hu; simp [vlC] at hu; rcases hu with rfl | rfl | rfl | rfl | rfl | rfl | rfl <;> rfl) (by omega) (by omega)
  refine ⟨v', w', h1, ?_, hfr.then_ h3 fun q hq h => h.elim (fun h => h) (fun h => absurd hq (by omega))⟩
  rw [vlsC_append]
  have e : vlsC [y] = vlC y := by simp [vlsC]
  rw [e]
  exact h2.join hfr.size h3.size
theorem grow_vl {W0 w w' : World} {v : Value} {n : Nat} {cs : List Value} (h : RowG w (Gr No W0 w) 61 7 v n cs) (f : Fr No w w') : RowG w' (Gr No W0 w') 61 7 v n cs := h.grow f
/-- The value of a record, if it is a value's. -/
def vlOne (z : Int) (a : Nat) (r : List UInt8) : List Vl := match rrR r with
  | some (x, s) => [⟨x, s, z, (a : Int), (r.length : Int)⟩]
  | none => []
def vlList (z : Int) : Nat → List (List UInt8) → List Vl
  | _, [] => []
  | a, r :: rs => vlOne z a r ++ vlList z (a + sizeL r.length) rs
theorem vlList_append (z : Int) : ∀ (rs ss : List (List UInt8)) (a : Nat), vlList z a (rs ++ ss) = vlList z a rs ++ vlList z (a + (framesL rs).length) ss
  | [], ss, a => rfl
  | r :: rs, ss, a => by
    show vlOne z a r ++ vlList z (a + sizeL r.length) (rs ++ ss) = (vlOne z a r ++ vlList z (a + sizeL r.length) rs) ++ _
    rw [vlList_append z rs ss, List.append_assoc]
    show _ = vlOne z a r ++ (vlList z (a + sizeL r.length) rs ++ vlList z (a + (frameL r ++ framesL rs).length) ss)
    rw [List.length_append, frameL_length, Nat.add_assoc]
theorem vlList_snoc (z : Int) (rs : List (List UInt8)) (r : List UInt8) (a : Nat) : vlList z a (rs ++ [r]) = vlList z a rs ++ vlOne z (a + (framesL rs).length) r := by
  rw [vlList_append]
  congr 1
  exact List.append_nil _
theorem vlOne_le (z : Int) (a : Nat) (r : List UInt8) : (vlOne z a r).length ≤ 1 := by
  unfold vlOne
  split <;> simp
theorem vlList_le (z : Int) : ∀ (rs : List (List UInt8)) (a : Nat), (vlList z a rs).length ≤ rs.length
  | [], _ => Nat.le_refl _
  | r :: rs, a => by
    show (vlOne z a r ++ vlList z _ rs).length ≤ rs.length + 1
    rw [List.length_append]
    have := vlOne_le z a r
    have := vlList_le z rs (a + sizeL r.length)
    omega
theorem xs_take {xs : List Tx} {j : Nat} {x : Tx} (h : xs[j]? = some x) : (xs.take (j + 1)).map Tx.b = (xs.take j).map Tx.b ++ [x.b] := by
  rw [List.take_add_one, h, List.map_append]
  rfl
/-- What List tells of bytes. -/
noncomputable def vlR (z : Int) (b : List UInt8) : List Vl := vlList z 0 (scanL b)
def VlRet (r : Int) (l : List Vl) (w : World) (e : Ending) (w' : World) : Prop :=
  (r ≠ 0 ∧ e = .returned (.tuple #[.slice none 0 0, .int .i64 r]) ∧ Fr No w w') ∨ (r = 0 ∧ ∃ v, e = .returned (.tuple #[v, .int .i64 0]) ∧ RowG w' (Gr No w w') 61 7 v l.length (vlsC l) ∧ Fr No w w')
section
variable {w : World} {d : Nat} {F : Nat → Prop} {m : Dev}
set_option maxRecDepth 20000 in
set_option maxHeartbeats 6400000 in
theorem vlist_c (h : Dz w d F m) (hw : WF m) (ht : Tab w) (z : Int) :
    Calls Tryd.prog 27 #[.pointer (some ⟨d, 0, none⟩), .int .i64 z] w (VlRet (rdErr m z 0 (ptrM m z)) (vlR z (rdB m z 0 (ptrM m z))) w) := by
  have hp64 : 0 ≤ ptrM m z ∧ ptrM m z ≤ 65536 := by
    unfold ptrM
    have := (zoneM_ok hw z).l
    have := hw.s64
    split <;> omega
  have CP := Lib.hid (pointer_c h hw z)
  have CR := Lib.hid (dread_c h hw z 0 (ptrM m z) (by decide) (wf_small (by omega) (by omega)))
  have HBL := Lib.hid (rdB_le hw z 0 (ptrM m z))
  have HV : Hid (vlR z (rdB m z 0 (ptrM m z)) = vlList z 0 (scanL (rdB m z 0 (ptrM m z)))) := Lib.hid rfl
  have HB0 : Hid (rdErr m z 0 (ptrM m z) ≠ 0 → rdB m z 0 (ptrM m z) = []) := Lib.hid fun h => by unfold rdB; rw [if_neg h]
  unfold ReadD at CR
  generalize vlR z (rdB m z 0 (ptrM m z)) = V at *
  generalize rdB m z 0 (ptrM m z) = bs_ at *
  generalize rdErr m z 0 (ptrM m z) = er at *
  generalize ptrM m z = pt at *
  obtain ⟨bn, hbn⟩ : ∃ n, bs_.length = n := ⟨_, rfl⟩
  have HBN := Lib.hid hbn
  rw [hbn] at HBL CR
  have HT := Lib.hid ht
  clear h hw hp64 hbn ht
  go_enter Tryd.func27, Tryd.ntmps27
  go_wp2_with fail
  refine (show Calls _ _ _ _ _ from CP.out).mono ?_
  rintro e w1 ⟨rfl, rfl⟩
  go_wp2_with fail
  refine (show Calls _ _ _ _ _ from CR.out).mono ?_
  rintro e w1 ⟨ba, bc, rfl, b1, b2, bin, bf⟩
  have HBI := Lib.hid bin
  have HF1 := Lib.hid bf
  clear bin bf CP CR
  by_cases he : er = 0
  · subst he
    have CS := Lib.hid (scan_c ba bn bc bs_ w1 HBN.out (by have := HBL.out; omega) b1 HBI.out.rd (HT.out.keep HF1.out (fun h => h)))
    clear HBI HB0 HT
    go_wp2_with fail
    refine (show Calls _ _ _ _ _ from CS.out).mono ?_
    rintro e w2 ⟨v2, xs, rfl, htx, hxs, hf2⟩
    obtain ⟨xa, xc, rfl, x1, x2, hrec⟩ := htx.texts
    have HREC := Lib.hid hrec
    have HF2 := Lib.hid (HF1.out.trans hf2)
    have HFL : Hid ((framesL (xs.map Tx.b)).length ≤ bn) := Lib.hid (by rw [hxs, ← HBN.out]; exact (scanL_is bs_).le)
    have hcount := framesL_count (xs.map Tx.b)
    have hbl := HBL.out
    have hfl := HFL.out
    rw [List.length_map] at hcount
    rw [← hxs] at HV
    obtain ⟨xn, hxn⟩ : ∃ n, xs.length = n := ⟨_, rfl⟩
    have HXN := Lib.hid hxn
    rw [hxn] at x1 hcount
    rw [hxn]
    have hxle : xn ≤ 65536 := by omega
    clear htx hxs hf2 hrec CS HF1 hxn hcount hbl hfl x2
    have ETK : Hid (∀ j, j < xn → ∃ x, xs[j]? = some x ∧ (framesL ((xs.take (j + 1)).map Tx.b)).length = (framesL ((xs.take j).map Tx.b)).length + sizeL x.b.length ∧ vlList z 0 ((xs.take (j + 1)).map Tx.b) = vlList z 0 ((xs.take j).map Tx.b) ++ vlOne z (framesL ((xs.take j).map Tx.b)).length x.b ∧ x.b.length ≤ 65536 ∧ (framesL ((xs.take (j + 1)).map Tx.b)).length ≤ 65536 ∧ (framesL ((xs.take j).map Tx.b)).length ≤ 65536 ∧ (vlList z 0 ((xs.take j).map Tx.b)).length ≤ 65536) := Lib.hid fun j hj => by
      have hj' : j < xs.length := by rw [HXN.out]; exact hj
      refine ⟨xs[j], List.getElem?_eq_getElem hj', ?_, ?_, ?_, ?_, ?_, ?_⟩
      · rw [xs_take (List.getElem?_eq_getElem hj'), framesL_snoc, List.length_append, frameL_length]
      · rw [xs_take (List.getElem?_eq_getElem hj'), vlList_snoc, Nat.zero_add]
      · have h1 := framesL_le (xs := xs.map Tx.b) (x := xs[j].b) (List.mem_map.2 ⟨_, List.getElem_mem hj', rfl⟩)
        have h2 := HFL.out
        have h3 := HBL.out
        omega
      · have h1 : (framesL (xs.map Tx.b)).length = (framesL ((xs.take (j + 1)).map Tx.b)).length + (framesL ((xs.drop (j + 1)).map Tx.b)).length := by
          rw [← List.length_append, ← framesL_append, ← List.map_append, List.take_append_drop]
        have h2 := HFL.out
        have h3 := HBL.out
        omega
      · have h1 : (framesL (xs.map Tx.b)).length = (framesL ((xs.take j).map Tx.b)).length + (framesL ((xs.drop j).map Tx.b)).length := by
          rw [← List.length_append, ← framesL_append, ← List.map_append, List.take_append_drop]
        have h2 := HFL.out
        have h3 := HBL.out
        omega
      · have h1 := vlList_le z ((xs.take j).map Tx.b) 0
        rw [List.length_map, List.length_take] at h1
        omega
    go_wp2_with fail
    go_loopw [8, 9, 37] (fun u p i wr => ∃ j at_ : Nat, i = .int .i64 j ∧ p = .int .i64 at_ ∧ j ≤ xn ∧ at_ = (framesL ((xs.take j).map Tx.b)).length ∧ RowG wr (Gr No w2 wr) 61 7 u (vlList z 0 ((xs.take j).map Tx.b)).length (vlsC (vlList z 0 ((xs.take j).map Tx.b))) ∧ Fr No w2 wr) (fun _ _ i _ => xn - (intOf i).toNat)
    case atStart => exact ⟨0, 0, rfl, rfl, Nat.zero_le _, rfl, RowG.nil _ _ _ _, Fr.refl _ _⟩
    case round =>
      obtain ⟨j, at_, rfl, rfl, hj, hat, hrow, hfr⟩ := hrel
      have HROW := Lib.hid hrow
      have HFR := Lib.hid hfr
      have HAT := Lib.hid hat
      obtain ⟨ua, uc, rfl, u1, u2, _⟩ := hrow.vls
      clear hrow hfr hat u1 u2
      by_cases h1 : j < xn
      · have d1 : decide ((j : Int) < (xn : Int)) = true := by rw [decide_eq_true_eq]; omega
        obtain ⟨x, hx, ht1, ht2, ht3, ht4, ht5, ht6⟩ := ETK.out j h1
        obtain ⟨b, o, rfl, hcell⟩ := HREC.out (by rw [HXN.out]; omega)
        have qx := (hcell j x hx).keep HFR.out
        have qc := qx.c0
        have HRD := Lib.hid qx.rd
        rw [← HAT.out] at ht1 ht2 ht5
        have HT1 := Lib.hid ht1
        have HT2 := Lib.hid ht2
        have HT4 := Lib.hid ht4
        have HT6 := Lib.hid ht6
        obtain ⟨V2, hV2⟩ : ∃ V, vlList z 0 ((xs.take (j + 1)).map Tx.b) = V := ⟨_, rfl⟩
        rw [hV2] at HT2
        have HG2 := Lib.hid hV2
        clear hV2
        generalize vlList z 0 ((xs.take j).map Tx.b) = V1 at *
        obtain ⟨vn, hvn⟩ : ∃ n, V1.length = n := ⟨_, rfl⟩
        have HVN := Lib.hid hvn
        rw [hvn] at HROW
        rw [hvn]
        obtain ⟨za, zc, zb⟩ := x
        simp only at qc HRD HT1 HT2 ht3
        obtain ⟨zn, hzn⟩ : ∃ n, zb.length = n := ⟨_, rfl⟩
        have HZN := Lib.hid hzn
        rw [hzn] at qc ht3 HT1
        have CRR := Lib.hid (readRecord_c za zn zc zb wr hzn (by omega) HRD.out)
        have CSZ := Lib.hid (fun w => fsize_c zn w (by omega))
        have hszl : sizeL zn ≤ 70000 := by have := sizeL_le (n := zn) (by omega); omega
        have e64 : (IntKind.i64.wrap ((at_ : Int) + (sizeL zn : Int))) = ((at_ + sizeL zn : Nat) : Int) := by simp [IntKind.wrap, IntKind.signed, IntKind.bits]; omega
        have HNX : Hid (at_ + sizeL zn = (framesL ((xs.take (j + 1)).map Tx.b)).length) := Lib.hid (by rw [HT1.out])
        generalize sizeL zn = S at *
        clear hx hcell ht1 ht2 ht4 ht6 qx hvn hzn HRD
        go_wp2_with fail
        refine (show Calls _ _ _ _ _ from CRR.out).mono ?_
        rintro e w4 ⟨hf4, hret⟩
        have HF4 := Lib.hid (HFR.out.trans hf4)
        have HROW4 := Lib.hid (RowG.grow HROW.out hf4)
        clear hf4 CRR HROW
        rcases hret with ⟨hnn, rfl⟩ | ⟨y, s, hss, hsl, rfl⟩
        · have HV2 : Hid (V2 = V1) := Lib.hid (by rw [HT2.out]; unfold vlOne; rw [hnn]; exact List.append_nil _)
          have f5 := (Fr.refl No w4).alloc (.cells #[.string ⟨#[]⟩, .int .i64 0, .int .i64 0] 43)
          have HF5 := Lib.hid (HF4.out.trans f5)
          have HROW5 := Lib.hid (RowG.grow HROW4.out f5)
          unfold kyV ky0
          clear hnn f5 HT2 HROW4
          go_wp2_with fail
          refine (CSZ.out _).mono ?_
          rintro e w5 ⟨rfl, rfl⟩
          go_wp2_with fail
          go_roundw
          case rel => exact ⟨j + 1, at_ + S, by simp, rfl, by omega, HNX.out, by rw [HG2.out, HV2.out, HVN.out]; exact HROW5.out, HF5.out⟩
          case measure => simp [intOf]; omega
        · have HV2 : Hid (V2 = V1 ++ [⟨y, s, z, (at_ : Int), (zn : Int)⟩]) := Lib.hid (by rw [HT2.out]; unfold vlOne; rw [hss, HZN.out, HAT.out])
          have HLV : Hid (V2.length = vn + 1) := Lib.hid (by rw [HV2.out, List.length_append, HVN.out]; rfl)
          have HL1 : Hid (vn ≤ 65536) := Lib.hid (by rw [← HVN.out]; exact HT6.out)
          obtain ⟨w5, hw5⟩ : ∃ W, w4.alloc (.cells #[.string y.u, .int .i64 y.q, .int .i64 y.k] 43) = W := ⟨_, rfl⟩
          obtain ⟨w6, hw6⟩ : ∃ W, w5.alloc (.cells #[.int .i64 z, .int .i64 (at_ : Int), .int .i64 (zn : Int)] 23) = W := ⟨_, rfl⟩
          have f5 : Fr No w4 w5 := by rw [← hw5]; exact (Fr.refl No w4).alloc _
          have f6 : Fr No w5 w6 := by rw [← hw6]; exact (Fr.refl No w5).alloc _
          have K5 : At w5 w4.heap.size 43 #[.string y.u, .int .i64 y.q, .int .i64 y.k] := by rw [← hw5]; exact At.new _ _ _
          have K6 := K5.keep f6 (fun h => h)
          have P6 : At w6 w5.heap.size 23 #[.int .i64 z, .int .i64 (at_ : Int), .int .i64 (zn : Int)] := by rw [← hw6]; exact At.new _ _ _
          have q0 := K6.cell 0
          have q1 := K6.cell 1
          have q2 := K6.cell 2
          have p0 := P6.cell 0
          have p1 := P6.cell 1
          have p2 := P6.cell 2
          simp at q0 q1 q2 p0 p1 p2
          obtain ⟨v7, w7, hrun, hrow7, hf7⟩ := push_vl w2 w6 (.slice ua vn uc) vn V1 ⟨y, s, z, (at_ : Int), (zn : Int)⟩ HVN.out (RowG.grow (RowG.grow HROW4.out f5) f6) ((HF4.out.trans f5).trans f6) (by have := HL1.out; omega)
          rw [← HV2.out] at hrow7
          have HROW7 := Lib.hid hrow7
          have HF7 := Lib.hid hf7
          have HRUN := Lib.hid hrun
          obtain ⟨ga, gn, gc, rfl⟩ : ∃ a n c, v7 = .slice a n c := by
            obtain ⟨a, c, h, _⟩ := hrow7.form
            exact ⟨a, _, c, h⟩
          clear hrow7 hf7 hrun hss hsl K5 K6 P6 f5 f6 HROW4
          unfold kyV
          go_wp2_with (at_builtin; refine wpList_append_run rfl _ _ 56 rfl rfl rfl HRUN.out ?_)
          refine (CSZ.out _).mono ?_
          rintro e w8 ⟨rfl, rfl⟩
          go_wp2_with fail
          go_roundw
          case rel => exact ⟨j + 1, at_ + S, by simp, rfl, by omega, HNX.out, by rw [HG2.out, HLV.out]; exact HROW7.out, HF7.out⟩
          case measure => simp [intOf]; omega
      · obtain rfl : j = xn := by omega
        have d1 : decide ((j : Int) < (j : Int)) = false := by simp
        have HO : Hid (VlRet 0 V w (.returned (.tuple #[.slice ua (vlList z 0 ((xs.take j).map Tx.b)).length uc, .int .i64 0])) wr) := Lib.hid (.inr ⟨rfl, _, rfl, by
          rw [HV.out]
          have e : xs.take j = xs := List.take_of_length_le (by rw [HXN.out]; exact Nat.le_refl _)
          rw [e] at HROW ⊢
          exact HROW.out.sub fun k _ hk => hk.elim .inl fun hk => .inr ⟨Nat.le_trans HF2.out.size hk.1, hk.2⟩, HF2.out.trans HFR.out⟩)
        clear HROW
        generalize (vlList z 0 ((xs.take j).map Tx.b)).length = vn at *
        go_wp2_with fail
        go_ret2
        exact HO.out
  · have e1 : (er != 0) = true := by rw [bne_iff_ne]; exact he
    have hb0 := HB0.out he
    have h0 : bn = 0 := by rw [← HBN.out, hb0]; rfl
    clear HB0 HBI HBL HV HBN
    go_wp2_with fail
    go_ret2
    exact .inl ⟨he, rfl, HF1.out⟩
end
end Go.Proofs.YtihahckjcedceaaDoor
