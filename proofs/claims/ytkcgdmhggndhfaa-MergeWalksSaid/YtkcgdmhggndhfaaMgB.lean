/-
  Layer 6: contracts of the document's put and One.
-/
import Derived.Test.YtkcgdmhggndhfaaMgA
namespace Go.Proofs.Ytkcgdmhggndhfaa
set_option linter.unusedVariables false
open Go.RowKit

/-- A slice of pairs that a function tells. -/
def PairsV (B : Nat) (l : List P2) (v : Value) (w : World) : Prop := ∃ a c, v = .slice a l.length c ∧ l.length ≤ c ∧ c ≤ maxLen ∧ InP w (From B) a l
theorem rowItem : RowT Try.prog 31 51 (.agg #[.int .i64 0, .int .i64 0]) 2 16 := ⟨Try.underlying31, by kernel_rfl, rfl, by decide⟩
/-- The document's insertion. -/
def insP (n : P2) : List P2 → List P2
  | [] => [n]
  | x :: xs => if n.1 < x.1 then n :: x :: xs else x :: insP n xs
theorem insP_length (n : P2) : ∀ l : List P2, (insP n l).length = l.length + 1
  | [] => rfl
  | x :: xs => by
    unfold insP
    split
    · simp
    · simp [insP_length n xs]
def insStP (n : P2) (s : List P2 × Bool) (x : P2) : List P2 × Bool := if !s.2 && decide (n.1 < x.1) then (s.1 ++ [n] ++ [x], true) else (s.1 ++ [x], s.2)
def insToP (n : P2) (l : List P2) (i : Nat) : List P2 × Bool := (l.take i).foldl (insStP n) ([], false)
theorem insToP_succ (n : P2) (l : List P2) (i : Nat) (h : i < l.length) : insToP n l (i + 1) = insStP n (insToP n l i) (l.getD i p20) := by
  unfold insToP
  rw [List.take_add_one, List.foldl_append]
  simp [List.getD, h]
theorem insToP_le (n : P2) (l : List P2) : ∀ i, (insToP n l i).1.length ≤ 2 * i := by
  intro i
  induction i with
  | zero => simp [insToP]
  | succ i ih =>
    rcases Nat.lt_or_ge i l.length with h | h
    · rw [insToP_succ n l i h]
      unfold insStP
      split <;> simp <;> omega
    · have e : insToP n l (i + 1) = insToP n l i := by
        unfold insToP
        rw [List.take_of_length_le (by omega), List.take_of_length_le h]
      rw [e]
      omega
theorem foldP_true (n : P2) : ∀ (l acc : List P2), l.foldl (insStP n) (acc, true) = (acc ++ l, true) := by
  intro l
  induction l with
  | nil => intro acc; simp
  | cons x xs ih =>
    intro acc
    show xs.foldl (insStP n) (insStP n (acc, true) x) = _
    have e : insStP n (acc, true) x = (acc ++ [x], true) := rfl
    rw [e, ih]
    simp
theorem foldP_false (n : P2) : ∀ (l acc : List P2), (if (l.foldl (insStP n) (acc, false)).2 then (l.foldl (insStP n) (acc, false)).1 else (l.foldl (insStP n) (acc, false)).1 ++ [n]) = acc ++ insP n l := by
  intro l
  induction l with
  | nil => intro acc; rfl
  | cons x xs ih =>
    intro acc
    by_cases h : n.1 < x.1
    · have e : insStP n (acc, false) x = (acc ++ [n] ++ [x], true) := by unfold insStP; simp [h]
      have e2 : insP n (x :: xs) = n :: x :: xs := by unfold insP; rw [if_pos h]
      show (if (xs.foldl (insStP n) (insStP n (acc, false) x)).2 then (xs.foldl (insStP n) (insStP n (acc, false) x)).1 else (xs.foldl (insStP n) (insStP n (acc, false) x)).1 ++ [n]) = _
      rw [e, foldP_true, e2]
      simp
    · have e : insStP n (acc, false) x = (acc ++ [x], false) := by unfold insStP; simp [h]
      have e2 : insP n (x :: xs) = x :: insP n xs := by
        show (if n.1 < x.1 then _ else _) = _
        rw [if_neg h]
      show (if (xs.foldl (insStP n) (insStP n (acc, false) x)).2 then (xs.foldl (insStP n) (insStP n (acc, false) x)).1 else (xs.foldl (insStP n) (insStP n (acc, false) x)).1 ++ [n]) = _
      rw [e, ih, e2]
      simp
theorem insToP_end (n : P2) (l : List P2) : (if (insToP n l l.length).2 then (insToP n l l.length).1 else (insToP n l l.length).1 ++ [n]) = insP n l := by
  have h := foldP_false n l []
  unfold insToP
  rw [List.take_length]
  simpa using h
/-- APPEND OF A PAIR to a row of the call's own (all that is new since W0). -/
theorem push_pair {P : Program} {t e : TypeId} {z : Value} (hT : RowT P t e z 2 16) (W0 wr : World) (vo : Value) (o : List P2) (x y : Int) (hrow : RowG wr (Gr No W0 wr) e 2 vo o.length (p2sC o)) (hfr : Fr No W0 wr) (hl : o.length ≤ 1000000) :
    ∃ v' w', (Builtin.append_ #[t, t] t #[vo, .slice (some ⟨wr.heap.size, 0, none⟩) 1 1]).run P (wr.alloc (.cells #[.int .i64 x, .int .i64 y] e)) = .ok v' w' ∧
      RowG w' (Gr No W0 w') e 2 v' (o ++ [(x, y)]).length (p2sC (o ++ [(x, y)])) ∧ Fr No W0 w' := by
  obtain ⟨v', w', h1, h2, h3⟩ := hrow.push hT (fun q hq => hq.elim (fun h => h.elim) (fun h => h.2)) (p2C (x, y)) rfl (by intro u hu; simp [p2C] at hu; rcases hu with rfl | rfl <;> rfl) (by omega) (by omega)
  refine ⟨v', w', h1, ?_, hfr.then_ h3 fun q hq h => h.elim (fun h => h) (fun h => absurd hq (by omega))⟩
  rw [List.length_append, p2sC_append]
  exact h2.join hfr.size h3.size
theorem RowG.pairsV {w w' : World} {e : TypeId} {v : Value} {l : List P2} (h : RowG w' (Gr No w w') e 2 v l.length (p2sC l)) {B : Nat} (hB : B ≤ w.heap.size) : PairsV B l v w' := by
  obtain ⟨a, c, rfl, h1, h2, h3⟩ := h.pairs
  exact ⟨a, c, rfl, h1, h2, h3.sub fun k _ hk => hk.elim (fun h => h.elim) (fun h => Nat.le_trans hB h.1)⟩
set_option maxRecDepth 20000 in
set_option maxHeartbeats 1600000 in
theorem refPutP_c (S : Nat → Prop) (a : Option Addr) (cap : Nat) (l : List P2) (k v : Int) (w : World) (hl : l.length ≤ 10000) (hc : l.length ≤ cap) (hm : cap ≤ maxLen) (hr : InP w S a l) :
    Calls Try.prog 33 #[.slice a l.length cap, .agg #[.int .i64 k, .int .i64 v]] w fun e w' => ∃ u, e = .returned u ∧ PairsV w.heap.size (insP (k, v) l) u w' ∧ Fr No w w' := by
  unfold maxLen at hm
  have HC := Lib.hid hr
  have HS := Lib.hid (insToP_succ (k, v) l)
  have HLE := Lib.hid (insToP_le (k, v) l)
  have HEND := Lib.hid (insToP_end (k, v) l)
  have HB := Lib.hid ((Fr.refl No w).alloc (.cells #[.int .i64 k, .int .i64 v] 51))
  have b0 : (w.alloc (.cells #[.int .i64 k, .int .i64 v] 51)).cell? ⟨w.heap.size, 0, none⟩ = some (.int .i64 k) := (At.new w 51 #[.int .i64 k, .int .i64 v]).cell 0
  have b1 : (w.alloc (.cells #[.int .i64 k, .int .i64 v] 51)).cell? ⟨w.heap.size, 1, none⟩ = some (.int .i64 v) := (At.new w 51 #[.int .i64 k, .int .i64 v]).cell 1
  have HB0 := Lib.hid b0
  have HB1 := Lib.hid b1
  have HPUSH := Lib.hid (push_pair rowItem (w.alloc (.cells #[.int .i64 k, .int .i64 v] 51)))
  have HFIN : Hid (∀ w' u o, RowG w' (Gr No (w.alloc (.cells #[.int .i64 k, .int .i64 v] 51)) w') 51 2 u o.length (p2sC o) → Fr No (w.alloc (.cells #[.int .i64 k, .int .i64 v] 51)) w' → o = insP (k, v) l → PairsV w.heap.size (insP (k, v) l) u w' ∧ Fr No w w') := Lib.hid fun w' u o h1 h2 h3 => by
    subst h3
    exact ⟨h1.pairsV HB.out.size, HB.out.trans h2⟩
  clear hr b0 b1
  unfold InP at HC
  obtain ⟨n, hn⟩ : ∃ n, l.length = n := ⟨_, rfl⟩
  rw [hn] at hc hl HC HEND
  rw [hn]
  have HN := Lib.hid hn
  clear hn
  go_enter Try.func33, Try.ntmps33
  go_wp2_with fail
  go_loopw [5, 6, 7] (fun vo fl i wr => ∃ j : Nat, i = .int .i64 j ∧ j ≤ n ∧ fl = .bool (insToP (k, v) l j).2 ∧ RowG wr (Gr No (w.alloc (.cells #[.int .i64 k, .int .i64 v] 51)) wr) 51 2 vo (insToP (k, v) l j).1.length (p2sC (insToP (k, v) l j).1) ∧ Fr No (w.alloc (.cells #[.int .i64 k, .int .i64 v] 51)) wr) (fun _ _ i _ => n - (intOf i).toNat)
  case atStart => exact ⟨0, rfl, Nat.zero_le _, rfl, RowG.nil _ _ _ _, Fr.refl _ _⟩
  case round =>
    obtain ⟨j, rfl, hj, rfl, hrow, hfr⟩ := hrel
    have hle := HLE.out j
    have c0 := hfr.cell HB0.out (fun h => h)
    have c1 := hfr.cell HB1.out (fun h => h)
    by_cases h1 : j < n
    · have d1 : decide ((j : Int) < (n : Int)) = true := by rw [decide_eq_true_eq]; omega
      obtain ⟨g, o, _, rfl, hx⟩ := HC.out (by omega)
      have q0 := hfr.cell (HB.out.cell (hx j h1).1 (fun h => h)) (fun h => h)
      have q1 := hfr.cell (HB.out.cell (hx j h1).2 (fun h => h)) (fun h => h)
      have hs := HS.out j (by rw [HN.out]; exact h1)
      have Q : Hid (∀ W', Fr No (w.alloc (.cells #[.int .i64 k, .int .i64 v] 51)) W' → W'.cell? ⟨g, o + j * 2, none⟩ = some (.int .i64 (l.getD j p20).1) ∧ W'.cell? ⟨g, o + j * 2 + 1, none⟩ = some (.int .i64 (l.getD j p20).2)) := Lib.hid fun W' f => ⟨f.cell (HB.out.cell (hx j h1).1 (fun h => h)) (fun h => h), f.cell (HB.out.cell (hx j h1).2 (fun h => h)) (fun h => h)⟩
      clear hx
      generalize insToP (k, v) l j = st at *
      obtain ⟨out, fl⟩ := st
      generalize hpx : l.getD j p20 = px at *
      obtain ⟨x, y⟩ := px
      simp only at q0 q1 hrow hle hs
      cases hfl : fl with
      | true =>
        have hs2 : insToP (k, v) l (j + 1) = (out ++ [(x, y)], true) := by rw [hs, hfl]; rfl
        obtain ⟨wd, hwd⟩ : ∃ x, wr.drew = x := ⟨_, rfl⟩
        have hrow' : RowG wr.drew (Gr No (w.alloc (.cells #[.int .i64 k, .int .i64 v] 51)) wr.drew) _ _ _ _ _ := hrow.keep (Fr.refl No wr).drew (fun _ _ h => h)
        have hfr' := hfr.drew
        rw [hwd] at hrow' hfr'
        obtain ⟨p0, p1⟩ := Q.out wd hfr'
        have b0 := hfr'.cell HB0.out (fun h => h)
        have b1 := hfr'.cell HB1.out (fun h => h)
        obtain ⟨v1, w1, hrun1, hrow1, hfr1⟩ := HPUSH.out wd _ out x y hrow' hfr' (by omega)
        have HRUN1 := Lib.hid hrun1
        have HS2 := Lib.hid hs2
        have HW := Lib.hid hrow1
        have HF := Lib.hid hfr1
        clear hrow hfr hrow' hfr' hrun1 hrow1 hfr1 hs hs2 hle hpx hfl
        go_wp2_with fail
        go_region
        try rw [hwd]
        clear hwd q0 q1 c0 c1
        go_wp2_with (at_builtin; refine wpList_append_run rfl _ _ 31 rfl rfl rfl HRUN1.out ?_)
        go_roundw
        case rel => exact ⟨j + 1, by simp, by omega, by rw [HS2.out], by rw [HS2.out]; exact HW.out, HF.out⟩
        case measure => simp [intOf]; omega
      | false =>
        by_cases hlt : k < x
        · have hs2 : insToP (k, v) l (j + 1) = (out ++ [(k, v)] ++ [(x, y)], true) := by
            rw [hs, hfl]
            unfold insStP
            simp [hlt]
          have d2 : decide (k < x) = true := decide_eq_true hlt
          obtain ⟨wd, hwd⟩ : ∃ x, wr.drew = x := ⟨_, rfl⟩
          have hrow' : RowG wr.drew (Gr No (w.alloc (.cells #[.int .i64 k, .int .i64 v] 51)) wr.drew) _ _ _ _ _ := hrow.keep (Fr.refl No wr).drew (fun _ _ h => h)
          have hfr' := hfr.drew
          rw [hwd] at hrow' hfr'
          obtain ⟨p0, p1⟩ := Q.out wd hfr'
          have b0 := hfr'.cell HB0.out (fun h => h)
          have b1 := hfr'.cell HB1.out (fun h => h)
          obtain ⟨v1, w1, hrun1, hrow1, hfr1⟩ := HPUSH.out wd _ out k v hrow' hfr' (by omega)
          obtain ⟨r0, r1⟩ := Q.out w1 hfr1
          obtain ⟨v2, w2, hrun2, hrow2, hfr2⟩ := HPUSH.out w1 _ (out ++ [(k, v)]) x y hrow1 hfr1 (by simp; omega)
          have HRUN1 := Lib.hid hrun1
          have HRUN2 := Lib.hid hrun2
          have HS2 := Lib.hid hs2
          have HW := Lib.hid hrow2
          have HF := Lib.hid hfr2
          clear hrow hfr hrow' hfr' hrun1 hrow1 hfr1 hrun2 hrow2 hfr2 hs hs2 hle hpx hfl
          go_wp2_with fail
          go_region
          try rw [hwd]
          clear hwd q0 q1 c0 c1
          go_wp2_with (at_builtin; first | refine wpList_append_run rfl _ _ 31 rfl rfl rfl HRUN1.out ?_ | refine wpList_append_run rfl _ _ 31 rfl rfl rfl HRUN2.out ?_)
          go_roundw
          case rel => exact ⟨j + 1, by simp, by omega, by rw [HS2.out], by rw [HS2.out]; exact HW.out, HF.out⟩
          case measure => simp [intOf]; omega
        · have hs2 : insToP (k, v) l (j + 1) = (out ++ [(x, y)], false) := by
            rw [hs, hfl]
            unfold insStP
            simp [hlt]
          have d2 : decide (k < x) = false := decide_eq_false hlt
          obtain ⟨wd, hwd⟩ : ∃ x, wr.drew = x := ⟨_, rfl⟩
          have hrow' : RowG wr.drew (Gr No (w.alloc (.cells #[.int .i64 k, .int .i64 v] 51)) wr.drew) _ _ _ _ _ := hrow.keep (Fr.refl No wr).drew (fun _ _ h => h)
          have hfr' := hfr.drew
          rw [hwd] at hrow' hfr'
          obtain ⟨p0, p1⟩ := Q.out wd hfr'
          have b0 := hfr'.cell HB0.out (fun h => h)
          have b1 := hfr'.cell HB1.out (fun h => h)
          obtain ⟨v1, w1, hrun1, hrow1, hfr1⟩ := HPUSH.out wd _ out x y hrow' hfr' (by omega)
          have HRUN1 := Lib.hid hrun1
          have HS2 := Lib.hid hs2
          have HW := Lib.hid hrow1
          have HF := Lib.hid hfr1
          clear hrow hfr hrow' hfr' hrun1 hrow1 hfr1 hs hs2 hle hpx hfl
          go_wp2_with fail
          go_region
          try rw [hwd]
          clear hwd q0 q1 c0 c1
          go_wp2_with (at_builtin; refine wpList_append_run rfl _ _ 31 rfl rfl rfl HRUN1.out ?_)
          go_roundw
          case rel => exact ⟨j + 1, by simp, by omega, by rw [HS2.out], by rw [HS2.out]; exact HW.out, HF.out⟩
          case measure => simp [intOf]; omega
    · obtain rfl : j = n := by omega
      have d1 : decide ((j : Int) < (j : Int)) = false := by simp
      generalize insToP (k, v) l j = st at *
      obtain ⟨out, fl⟩ := st
      simp only at hrow hle
      have HE := HEND.out
      clear HEND
      simp only at HE
      cases hfl : fl with
      | true =>
        rw [hfl] at HE
        simp only [if_true] at HE
        have HR := Lib.hid (HFIN.out wr _ out hrow hfr HE)
        clear hrow hfr hle hfl HE c0 c1
        go_wp2_with fail
        go_ret
        exact ⟨_, rfl, HR.out⟩
      | false =>
        rw [hfl] at HE
        simp only [Bool.false_eq_true, if_false] at HE
        obtain ⟨v1, w1, hrun1, hrow1, hfr1⟩ := HPUSH.out wr _ out k v hrow hfr (by omega)
        have HRUN1 := Lib.hid hrun1
        have HR := Lib.hid (HFIN.out w1 v1 _ hrow1 hfr1 HE)
        clear hrow hfr hle hfl HE hrun1 hrow1 hfr1
        go_wp2_with (at_builtin; refine wpList_append_run rfl _ _ 31 rfl rfl rfl HRUN1.out ?_)
        go_ret
        exact ⟨_, rfl, HR.out⟩
end Go.Proofs.Ytkcgdmhggndhfaa
