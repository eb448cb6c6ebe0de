/-
  Layer 9: lists of records in memory; the statements' 'same' and 'small'; the document's Scan.
-/
import Derived.Test.YtcekgalppbfnhaaDoorRlA
import Derived.Test.YtcekgalppbfnhaaDoorOpenT
import Derived.Test.YtcekgalppbfnhaaDoorMemG
import Derived.Test.YtcekgalppbfnhaaDoorRng
import Derived.BigQuiet
namespace Go.Proofs.YtcekgalppbfnhaaDoor
set_option linter.unusedVariables false
open Go.RowKit

theorem rowTx : RowT Tryd.prog 25 22 (.slice none 0 0) 1 24 := ⟨Tryd.underlying25, by kernel_rfl, rfl, by decide⟩
theorem sizeSl (w : World) : (sizeOf 22).run Tryd.prog w = .ok 1 w := by kernel_rfl
def txV (x : Tx) : Value := .slice x.a x.b.length x.c
def txC (xs : List Tx) : List Value := xs.map txV
/-- RECORDS of the call's own: their list's block, and each one's bytes in blocks from B on that are not the list's. -/
structure TxR (w : World) (B : Nat) (v : Value) (xs : List Tx) : Prop where
  row : RowG w (Own1 v) 22 1 v xs.length (txC xs)
  own : ∀ k, v.ownBlock = some k → B ≤ k
  at_ : ∀ x ∈ xs, In w (fun k => B ≤ k ∧ v.ownBlock ≠ some k) x.a x.b
theorem TxR.nil (w : World) (B : Nat) : TxR w B (.slice none 0 0) [] := ⟨RowG.nil _ _ _ _, fun k h => absurd h (by simp [Value.ownBlock]), fun x h => absurd h (List.not_mem_nil)⟩
theorem TxR.keep {w w' : World} {B : Nat} {T : Nat → Prop} {v : Value} {xs : List Tx} (h : TxR w B v xs) (f : Fr T w w') (hT : ∀ k, B ≤ k → k < w.heap.size → ¬ T k) : TxR w' B v xs := by
  have f2 : Fr (fun k => T k ∧ k < w.heap.size) w w' := f.sub fun k hk h => ⟨h, hk⟩
  exact ⟨h.row.keep f2 fun k hk ht => hT k (h.own k hk) ht.2 ht.1, h.own, fun x hx => (h.at_ x hx).keep f2 fun k hk ht => hT k hk.1 ht.2 ht.1⟩
theorem TxR.low {w : World} {B B' : Nat} {v : Value} {xs : List Tx} (h : TxR w B v xs) (hB : B' ≤ B) : TxR w B' v xs :=
  ⟨h.row, fun k hk => Nat.le_trans hB (h.own k hk), fun x hx => (h.at_ x hx).sub fun k _ hk => ⟨Nat.le_trans hB hk.1, hk.2⟩⟩
/-- Records that are read. -/
structure RcAt (w : World) (b o : Nat) (x : Tx) : Prop where
  c0 : w.cell? ⟨b, o, none⟩ = some (.slice x.a x.b.length x.c)
  rd : Rd w x.a x.b
theorem RcAt.keep {w w' : World} {b o : Nat} {x : Tx} (h : RcAt w b o x) (f : Fr No w w') : RcAt w' b o x := ⟨f.cell h.c0 (fun h => h), h.rd.keep f⟩
def Recs (w : World) (a : Option Addr) (l : List Tx) : Prop := 0 < l.length → ∃ b o, a = some ⟨b, o, none⟩ ∧ ∀ i x, l[i]? = some x → RcAt w b (o + i) x
theorem Recs.keep {w w' : World} {a : Option Addr} {l : List Tx} (h : Recs w a l) (f : Fr No w w') : Recs w' a l := fun hl => by
  obtain ⟨b, o, ha, hx⟩ := h hl
  exact ⟨b, o, ha, fun i x hi => (hx i x hi).keep f⟩
theorem Texts.recs {w : World} {a : Option Addr} {l : List Tx} (h : Texts w a l) : Recs w a l := fun hl => by
  obtain ⟨b, o, ha, hx⟩ := h hl
  exact ⟨b, o, ha, fun i x hi => ⟨(hx i x hi).c0, (hx i x hi).rd⟩⟩
theorem TxR.texts {w : World} {B : Nat} {v : Value} {xs : List Tx} (h : TxR w B v xs) : ∃ a cap, v = .slice a xs.length cap ∧ xs.length ≤ cap ∧ cap ≤ maxLen ∧ Recs w a xs := by
  obtain ⟨a, cap, rfl, h1, h2, h3, h4⟩ := h.row.form
  refine ⟨a, cap, rfl, h1, h2, fun h0 => ?_⟩
  obtain ⟨b, _, rfl, hc⟩ := h4 h0
  refine ⟨b, 0, rfl, fun i x hx => ?_⟩
  have hi : i < xs.length := (List.getElem?_eq_some_iff.1 hx).1
  refine ⟨?_, (h.at_ x (List.mem_of_getElem? hx)).rd⟩
  rw [Nat.zero_add, (hc i (by omega)).1]
  unfold txC
  rw [List.getElem?_map, hx]
  rfl
/-- A record more. -/
theorem TxR.push {w : World} {B : Nat} {v : Value} {xs : List Tx} (h : TxR w B v xs) (x : Tx) (h3 : In w (fun k => B ≤ k ∧ v.ownBlock ≠ some k) x.a x.b) (hB : B ≤ w.heap.size) (hn : xs.length < 1000000) :
    ∃ v' w', (Builtin.append_ #[25, 25] 25 #[v, .slice (some ⟨w.heap.size, 0, none⟩) 1 1]).run Tryd.prog (w.alloc (.cells #[.slice x.a x.b.length x.c] 22)) = .ok v' w' ∧ TxR w' B v' (xs ++ [x]) ∧ Fr (Own1 v) w w' := by
  obtain ⟨v', w', hrun, hrow, hfr⟩ := RowG.push rowTx h.row (fun k hk => (h.row.1.lt k hk).2) [txV x] rfl (by intro u hu; rw [List.mem_singleton.1 hu]; rfl) (by omega) (by omega)
  have hv : ∀ k, v'.ownBlock = some k → v.ownBlock = some k ∨ w.heap.size ≤ k := fun k hk => (hrow.2 k hk).elim .inl fun h => .inr h.1
  have hin : ∀ {y : Tx}, In w (fun k => B ≤ k ∧ v.ownBlock ≠ some k) y.a y.b → In w' (fun k => B ≤ k ∧ v'.ownBlock ≠ some k) y.a y.b := fun {y} hy =>
    (hy.sub (T := fun k => (B ≤ k ∧ v.ownBlock ≠ some k) ∧ k < w.heap.size) fun k hk h => ⟨h, hk⟩).keep hfr (fun k hk hv => hk.1.2 hv) |>.sub fun k _ hk => ⟨hk.1.1, fun e => (hv k e).elim hk.1.2 (fun h => by have := hk.2; omega)⟩
  refine ⟨v', w', hrun, ⟨?_, fun k hk => (hv k hk).elim (h.own k) fun h => Nat.le_trans hB h, fun y hy => ?_⟩, hfr⟩
  · rw [List.length_append]
    unfold txC
    rw [List.map_append]
    exact ⟨hrow.1, fun k hk => hk⟩
  · rcases List.mem_append.1 hy with hy | hy
    · exact hin (h.at_ y hy)
    · obtain rfl := List.mem_singleton.1 hy
      exact hin h3
/-- An answer, and nothing of before has turned. -/
def Ask (v : Value) (w : World) (e : Ending) (w' : World) : Prop := e = .returned v ∧ Fr No w w'
theorem same_q {a a' : Option Addr} {len cap len' cap' : Nat} {l l' : List UInt8} {w : World} (hl : l.length = len) (hl' : l'.length = len') (hr : Rd w a l) (hr' : Rd w a' l') (n : Nat) :
    Calls Tryd.prog 12 #[.slice a len cap, .slice a' len' cap'] (w.drewN n) fun e w' => e = .returned (.bool (l == l')) ∧ ∃ m, w' = w.drewN m :=
  Calls.quiet_of_same ((same_c a a' len cap len' cap' l l' _ hl hl' (hr.keep ((Fr.refl No w).drewN n)) (hr'.keep ((Fr.refl No w).drewN n))).mono fun _ _ h => ⟨h.1, h.2.symm⟩)
theorem eqT {xs ys : List Tx} (hl : xs.length = ys.length) (h : ∀ (t : Nat) (x y : Tx), xs[t]? = some x → ys[t]? = some y → x.b = y.b) : (xs.map Tx.b == ys.map Tx.b) = true := by
  rw [beq_iff_eq]
  apply List.ext_getElem?
  intro i
  rw [List.getElem?_map, List.getElem?_map]
  rcases Nat.lt_or_ge i xs.length with h1 | h1
  · rw [List.getElem?_eq_getElem h1, List.getElem?_eq_getElem (by omega)]
    exact congrArg some (h i _ _ (List.getElem?_eq_getElem h1) (List.getElem?_eq_getElem (by omega)))
  · rw [List.getElem?_eq_none h1, List.getElem?_eq_none (by omega)]
theorem neT {xs ys : List Tx} (h : xs.length ≠ ys.length) : (xs.map Tx.b == ys.map Tx.b) = false := by
  rw [beq_eq_false_iff_ne]
  intro e
  have := congrArg List.length e
  rw [List.length_map, List.length_map] at this
  exact h this
theorem neT' {xs ys : List Tx} {t : Nat} {x y : Tx} (hx : xs[t]? = some x) (hy : ys[t]? = some y) (h : x.b ≠ y.b) : (xs.map Tx.b == ys.map Tx.b) = false := by
  rw [beq_eq_false_iff_ne]
  intro e
  have := congrArg (fun l => l[t]?) e
  simp only [List.getElem?_map, hx, hy, Option.map_some, Option.some.injEq] at this
  exact h this
set_option maxRecDepth 20000 in
set_option maxHeartbeats 1600000 in
theorem sameT_c (a a' : Option Addr) (n c n' c' : Nat) (xs ys : List Tx) (w : World) (hn : xs.length = n) (hn' : ys.length = n') (hm : n ≤ 1000000) (hm' : n' ≤ 1000000) (hx : Recs w a xs) (hy : Recs w a' ys) :
    Calls Tryd.prog 16 #[.slice a n c, .slice a' n' c'] w (Ask (.bool (xs.map Tx.b == ys.map Tx.b)) w) := by
  by_cases hne : n = n'
  · subst hne
    have e1 : ((n : Int) != (n : Int)) = false := by simp
    have HX := Lib.hid hx
    have HY := Lib.hid hy
    have HN := Lib.hid hn
    have HN' := Lib.hid hn'
    have HEQ := Lib.hid (fun h => eqT (xs := xs) (ys := ys) (hn.trans hn'.symm) h)
    have HNE := Lib.hid (fun (t : Nat) (x y : Tx) h1 h2 h3 => neT' (xs := xs) (ys := ys) (t := t) (x := x) (y := y) h1 h2 h3)
    clear hx hy hn hn'
    generalize (xs.map Tx.b == ys.map Tx.b) = R at *
    go_enter Tryd.func16, Tryd.ntmps16
    go_wp2_with fail
    go_loopw [13] (fun i wr => ∃ j : Nat, i = .int .i64 j ∧ j ≤ n ∧ Fr No w wr ∧ ∀ (t : Nat) (x y : Tx), t < j → xs[t]? = some x → ys[t]? = some y → x.b = y.b) (fun i _ => n - (intOf i).toNat)
    case atStart => exact ⟨0, rfl, Nat.zero_le _, Fr.refl _ _, fun t x y h => absurd h (Nat.not_lt_zero t)⟩
    case round =>
      obtain ⟨j, rfl, hj, hfr, hall⟩ := hrel
      have HA := Lib.hid hall
      have HF := Lib.hid hfr
      clear hall hfr
      by_cases h1 : j < n
      · obtain ⟨b, o, rfl, hxs⟩ := HX.out (by rw [HN.out]; omega)
        obtain ⟨b', o', rfl, hys⟩ := HY.out (by rw [HN'.out]; omega)
        obtain ⟨x, hx⟩ : ∃ x, xs[j]? = some x := ⟨_, List.getElem?_eq_getElem (by rw [HN.out]; exact h1)⟩
        obtain ⟨y, hy⟩ : ∃ y, ys[j]? = some y := ⟨_, List.getElem?_eq_getElem (by rw [HN'.out]; exact h1)⟩
        have qx := (hxs j x hx).keep HF.out
        have qy := (hys j y hy).keep HF.out
        have c0 := qx.c0
        have c1 := qy.c0
        have g1 : (0 : Int) ≤ (j : Int) := by omega
        have g2 : (j : Int) < (n : Int) := by omega
        have C := Lib.hid (fun m => same_q (cap := x.c) (cap' := y.c) rfl rfl qx.rd qy.rd m)
        have HXJ := Lib.hid hx
        have HYJ := Lib.hid hy
        clear hxs hys hx hy qx qy
        obtain ⟨xa, xc, xb⟩ := x
        obtain ⟨ya, yc, yb⟩ := y
        simp only at c0 c1 C
        have hB : (xb == yb) = true ∨ (xb == yb) = false := by cases (xb == yb) <;> simp
        rcases hB with hB | hB
        · rw [hB] at C
          have HA2 : Hid (∀ (t : Nat) (x y : Tx), t < j + 1 → xs[t]? = some x → ys[t]? = some y → x.b = y.b) := Lib.hid fun t x y ht hxx hyy => by
            rcases Nat.lt_or_ge t j with h | h
            · exact HA.out t x y h hxx hyy
            · obtain rfl : t = j := by omega
              rw [HXJ.out] at hxx
              rw [HYJ.out] at hyy
              cases hxx
              cases hyy
              exact beq_iff_eq.1 hB
          clear hB
          generalize xb.length = xn at *
          generalize yb.length = yn at *
          go_wp2_with fail
          go_quiet (exact C.out _)
          go_wp2_with fail
          go_roundw
          case rel => exact ⟨j + 1, by simp, by omega, HF.out.drewN _, HA2.out⟩
          case measure => simp [intOf]; omega
        · rw [hB] at C
          have HR := Lib.hid (HNE.out j _ _ HXJ.out HYJ.out (beq_eq_false_iff_ne.1 hB))
          clear hB
          generalize xb.length = xn at *
          generalize yb.length = yn at *
          go_wp2_with fail
          go_quiet (exact C.out _)
          go_wp2_with fail
          go_ret
          exact ⟨by rw [HR.out]; rfl, HF.out.drewN _⟩
      · obtain rfl : j = n := by omega
        have d1 : decide ((j : Int) < (j : Int)) = false := by simp
        have HR := Lib.hid (HEQ.out (fun t x y hx hy => HA.out t x y (by have := (List.getElem?_eq_some_iff.1 hx).1; rw [HN.out] at this; exact this) hx hy))
        go_wp2_with fail
        go_ret
        exact ⟨by rw [HR.out]; rfl, HF.out⟩
  · have e1 : ((n : Int) != (n' : Int)) = true := by rw [bne_iff_ne]; omega
    have HR := Lib.hid (neT (xs := xs) (ys := ys) (by rw [hn, hn']; exact hne))
    clear hx hy hn hn' hne
    generalize (xs.map Tx.b == ys.map Tx.b) = R at *
    go_enter Tryd.func16, Tryd.ntmps16
    go_wp2_with fail
    go_ret
    exact ⟨by rw [HR.out]; rfl, Fr.refl _ _⟩
/-! ### The bound on records. -/
def small9 (l : List Tx) (most : Int) : Bool := l.all (fun x => decide (x.b.length ≤ 300)) && decide ((l.length : Int) ≤ most)
theorem small9_no {l : List Tx} {most : Int} {i : Nat} {x : Tx} (h : l[i]? = some x) (hx : 300 < x.b.length) : small9 l most = false := by
  unfold small9
  rw [Bool.and_eq_false_iff]
  left
  rw [List.all_eq_false]
  exact ⟨x, List.mem_of_getElem? h, by simp; omega⟩
theorem small9_all {l : List Tx} {most : Int} (h : ∀ (j : Nat) (x : Tx), j < l.length → l[j]? = some x → x.b.length ≤ 300) : small9 l most = decide ((l.length : Int) ≤ most) := by
  unfold small9
  have : l.all (fun x => decide (x.b.length ≤ 300)) = true := by
    rw [List.all_eq_true]
    intro x hx
    obtain ⟨i, hi, rfl⟩ := List.mem_iff_getElem.1 hx
    simpa using h i l[i] hi (List.getElem?_eq_getElem hi)
  rw [this, Bool.true_and]
theorem small9_yes {l : List Tx} {most : Int} (h : small9 l most = true) : (l.length : Int) ≤ most ∧ ∀ (j : Nat) (x : Tx), l[j]? = some x → x.b.length ≤ 300 := by
  unfold small9 at h
  rw [Bool.and_eq_true, List.all_eq_true] at h
  refine ⟨by simpa using h.2, fun j x hx => by simpa using h.1 x (List.mem_of_getElem? hx)⟩
set_option maxRecDepth 20000 in
set_option maxHeartbeats 800000 in
theorem small9_c (a : Option Addr) (cap : Nat) (l : List Tx) (most : Int) (w : World) (hm : l.length ≤ maxLen) (hi : Texts w a l) :
    Calls Tryd.prog 17 #[.slice a l.length cap, .int .i64 most] w fun e w' => e = .returned (.bool (small9 l most)) ∧ w = w' := by
  unfold maxLen at hm
  obtain ⟨len, hlen⟩ : ∃ len, l.length = len := ⟨_, rfl⟩
  rw [hlen] at hm ⊢
  have HL := Lib.hid hlen
  have HI := Lib.hid hi
  clear hi hlen
  go_enter Tryd.func17, Tryd.ntmps17
  go_wp2_with fail
  go_loopw [9] (fun i wr => ∃ k : Nat, i = .int .i64 k ∧ k ≤ len ∧ wr = w ∧ ∀ (j : Nat) (x : Tx), j < k → l[j]? = some x → x.b.length ≤ 300) (fun i _ => len - (intOf i).toNat)
  case atStart => exact ⟨0, rfl, Nat.zero_le _, rfl, fun j x h => absurd h (by omega)⟩
  case round =>
    obtain ⟨k, rfl, hk, rfl, hall⟩ := hrel
    have HA := Lib.hid hall
    clear hall
    by_cases hlt : k < len
    · have hkl : k < l.length := by rw [HL.out]; exact hlt
      obtain ⟨b, o, rfl, hx⟩ := HI.out (by omega)
      have hx := hx k l[k] (List.getElem?_eq_getElem hkl)
      have HX : Hid (l[k]? = some l[k]) := Lib.hid (List.getElem?_eq_getElem hkl)
      generalize l[k] = x at hx HX
      obtain ⟨c0, h1, h2, _⟩ := hx
      unfold maxLen at h2
      by_cases h5 : 300 < x.b.length
      · have HN := Lib.hid (small9_no (most := most) HX.out h5)
        generalize x.b.length = m at *
        go_wp2_with fail
        go_ret
        exact ⟨by rw [HN.out]; rfl, rfl⟩
      · have HA2 : Hid (∀ (j : Nat) (x : Tx), j < k + 1 → l[j]? = some x → x.b.length ≤ 300) := Lib.hid (fun j y hj hy => by
          rcases Nat.lt_or_ge j k with h | h
          · exact HA.out j y h hy
          · have : j = k := by omega
            subst this
            rw [HX.out] at hy
            cases hy
            omega)
        generalize x.b.length = m at *
        go_wp2_with fail
        go_roundw
        case rel => exact ⟨k + 1, by simp, by omega, by simp, HA2.out⟩
        case measure => simp [intOf]; omega
    · have hk' : k = len := by omega
      have HN := Lib.hid (small9_all (most := most) fun j x hj hx => HA.out j x (by rw [hk', ← HL.out]; exact hj) hx)
      rw [HL.out] at HN
      have Hk := Lib.hid hk'
      clear hk'
      go_wp2_with fail
      go_ret
      exact ⟨by rw [HN.out]; rfl, rfl⟩
theorem Row.own1 {w1 w2 : World} {v v' : Value} {l : List UInt8} {B : Nat} (h : Row w2 (Gr (Own1 v) w1 w2) v' l) (hv : ∀ k, v.ownBlock = some k → B ≤ k) (hB : B ≤ w1.heap.size) : Row w2 (Own1 v') v' l ∧ (∀ k, v'.ownBlock = some k → B ≤ k) ∧ ∀ k, v'.ownBlock = some k → v.ownBlock = some k ∨ w1.heap.size ≤ k :=
  ⟨h.own, fun k hk => (h.2 k hk).elim (hv k) fun h => Nat.le_trans hB h.1, fun k hk => (h.2 k hk).elim .inl fun h => .inr h.1⟩
theorem RowI.own1 {w1 w2 : World} {v v' : Value} {l : List Int} {B : Nat} (h : RowI w2 (Gr (Own1 v) w1 w2) v' l) (hv : ∀ k, v.ownBlock = some k → B ≤ k) (hB : B ≤ w1.heap.size) : RowI w2 (Own1 v') v' l ∧ (∀ k, v'.ownBlock = some k → B ≤ k) ∧ ∀ k, v'.ownBlock = some k → v.ownBlock = some k ∨ w1.heap.size ≤ k :=
  ⟨h.own, fun k hk => (h.2 k hk).elim (hv k) fun h => Nat.le_trans hB h.1, fun k hk => (h.2 k hk).elim .inl fun h => .inr h.1⟩
end Go.Proofs.YtcekgalppbfnhaaDoor
