/-
  Texts of layer 13 and of what it stands on, one behind the other.
-/
import Derived.RangeFuncNested
import Derived.RangeFuncBound
import Derived.RangeFuncCalls
import Derived.RangeFuncLeaves
import Derived.Shelf.Abstract
import Derived.Shelf.RegionOpen
import Derived.WalkKit
import Derived.OwnWalkIn
import Derived.TacticsInMore
import Derived.LoopNIn
import Derived.LoopIn
import Derived.Test.YtlobnbbndkhcbaaGreatDoorMg16

/- Layer 12, the program's own: the iterators over pairs: of a slice (slices.Values), of bytes (read). -/
namespace Go.Proofs.YtlobnbbndkhcbaaGreatDoor
set_option linter.unusedVariables false
open Go.RowKit Go.Shelf
attribute [local go_sem] Oper.semAt_some

/-- A place of m. -/
abbrev Plc (m : Nat) : Type := { i : Nat // i < m }
/-- The k first places. -/
def up (m : Nat) : Nat → List (Plc m)
  | 0 => []
  | k + 1 => if h : k < m then up m k ++ [⟨k, h⟩] else up m k
theorem up_step {m k : Nat} (h : k < m) : up m (k + 1) = up m k ++ [⟨k, h⟩] := by
  show (if h : k < m then up m k ++ [⟨k, h⟩] else up m k) = _
  rw [dif_pos h]
theorem up_len (m : Nat) : ∀ k, k ≤ m → (up m k).length = k
  | 0, _ => rfl
  | k + 1, h => by rw [up_step (by omega), List.length_append, up_len m k (by omega)]; rfl
theorem up_prefix (m k : Nat) : ∀ d, up m k <+: up m (k + d)
  | 0 => List.prefix_refl _
  | d + 1 => by
    refine (up_prefix m k d).trans ?_
    show up m (k + d) <+: (if h : k + d < m then up m (k + d) ++ [⟨k + d, h⟩] else up m (k + d))
    split
    · exact List.prefix_append _ _
    · exact List.prefix_refl _
theorem up_get (m : Nat) : ∀ k, k ≤ m → ∀ j, j < k → ∃ h : j < m, (up m k)[j]? = some ⟨j, h⟩
  | 0, _, j, h => absurd h (Nat.not_lt_zero j)
  | k + 1, hk, j, h => by
    rw [up_step (by omega)]
    rcases Nat.lt_or_ge j k with h1 | h1
    · obtain ⟨h2, h3⟩ := up_get m k (by omega) j h1
      exact ⟨h2, by rw [List.getElem?_append_left (by rw [up_len m k (by omega)]; exact h1), h3]⟩
    · obtain rfl : j = k := by omega
      exact ⟨by omega, by rw [List.getElem?_append_right (by rw [up_len m j (by omega)]; exact Nat.le_refl _), up_len m j (by omega), Nat.sub_self]; rfl⟩
/-- What is a beginning of all places. -/
theorem up_pre {m : Nat} {pre : List (Plc m)} (h : pre <+: up m m) : pre.length ≤ m ∧ pre = up m pre.length := by
  obtain ⟨t, ht⟩ := h
  have hl := congrArg List.length ht
  rw [List.length_append, up_len m m (Nat.le_refl _)] at hl
  refine ⟨by omega, ?_⟩
  obtain ⟨s, hs⟩ := up_prefix m pre.length (m - pre.length)
  rw [show pre.length + (m - pre.length) = m by omega] at hs
  exact (List.append_inj (ht.trans hs.symm) (by rw [up_len m _ (by omega)])).1
theorem fr_grown {w w' : World} (h : Fr No w w') : w.grownBy w' none := ⟨h.os, h.tape, h.output, h.size, fun k hk _ => h.block k hk (fun h => h)⟩
theorem abides_fr {β : Type} {B : Nat} {J : β → World → Prop} (h : AbidesFrom B J) {s : β} {W W' : World} (hs : J s W) (f : Fr No W W') : J s W' := h s W W' none hs (fr_grown f) (fun r e => by cases e)

/-- WHAT A ROUND'S BODY KEEPS: the blocks of S0, and all boxes of pairs. -/
structure Kq (S0 : Nat → Prop) (A B : World) : Prop where
  size : A.heap.size ≤ B.heap.size
  same : ∀ k, k < A.heap.size → (S0 k ∨ ∃ cs fz, A.heap[k]? = some (.cells cs 74 fz)) → B.heap[k]? = A.heap[k]?
theorem Kq.trans {S0 : Nat → Prop} {A B C : World} (h : Kq S0 A B) (k : Kq S0 B C) : Kq S0 A C := ⟨Nat.le_trans h.size k.size, fun i hi hc => by
  have e := h.same i hi hc
  refine (k.same i (Nat.lt_of_lt_of_le hi h.size) (hc.imp (fun h => h) fun ⟨cs, fz, hc⟩ => ⟨cs, fz, e.trans hc⟩)).trans e⟩
theorem Kq.of_fr {S0 : Nat → Prop} {A B : World} (f : Fr No A B) : Kq S0 A B := ⟨f.size, fun i hi _ => f.block i hi (fun h => h)⟩
theorem Kq.put {S0 : Nat → Prop} (W : World) (l : Nat) {o : Obj} (o' : Obj) (hl : ¬ S0 l) (h : W.heap[l]? = some o) (hc : o.isCells = false) : Kq S0 W (W.putObj l o') := ⟨by simp [World.putObj], fun i hi hh => by
  refine World.putObj_heap_other fun e => ?_
  subst e
  rcases hh with hh | ⟨cs, fz, hh⟩
  · exact hl hh
  · rw [h] at hh
    cases hh
    simp [Obj.isCells] at hc⟩
theorem Kq.cell {S0 : Nat → Prop} {A B : World} (h : Kq S0 A B) {p : Addr} {v : Value} (hc : A.cell? p = some v) (hs : S0 p.block) : B.cell? p = some v := (World.cell?_of_block (h.same p.block (cell_block hc) (.inl hs))).trans hc
theorem Kq.pair {S0 : Nat → Prop} {A B : World} (h : Kq S0 A B) {g : Nat} {cs : Array Value} (ha : At A g 74 cs) : At B g 74 cs := (h.same g ha.lt (.inr ⟨cs, _, ha⟩)).trans ha
theorem Prs.keepQ {S0 : Nat → Prop} {A B : World} {S : Nat → Prop} {a : Option Addr} {l : List Pr} (h : Prs A S a l) (k : Kq S0 A B) (hs : ∀ x, S x → S0 x) : Prs B S a l := fun hl => by
  obtain ⟨b, o, hb, ha, hc⟩ := h hl
  exact ⟨b, o, hb, ha, fun i hi => ⟨k.cell (hc i hi).c0 (hs b hb), k.cell (hc i hi).c1 (hs b hb)⟩⟩

set_option maxRecDepth 100000 in
set_option maxHeartbeats 2000000 in
theorem values_in (n : Nat) (hn : 1 ≤ n) (y B1 : Nat) (a : Option Addr) (ca : Nat) (l : List Pr) (S S0 : Nat → Prop) (hm : l.length ≤ 1000000) (h2 : ∀ k, S k → S0 k) (J Jx : List (Plc l.length) → World → Prop)
    (W : World) (hJ : AbidesFrom W.heap.size J)
    (hY : ∀ pre (z : Plc l.length) W1, J pre W1 → pre.length < l.length → YieldAt Fence.wide (n - 1) Tryz.prog y #[prV (l.getD z.val pr0)] W1 fun e W' =>
      (e = .returned (.bool true) ∧ J (pre ++ [z]) W' ∧ Kq S0 W1 W') ∨ (e = .returned (.bool false) ∧ Jx (pre ++ [z]) W'))
    (b1 : W.cell? ⟨B1, 0, none⟩ = some (.slice a l.length ca)) (cr : Prs W S a l) (h0 : J [] W) :
    CallsIn Fence.wide n Tryz.prog 145 #[.func (.yield y) #[] #[], .pointer (some ⟨B1, 0, none⟩)] W fun e W' => (∃ v, e = .returned v) ∧
      ((∃ ys, ys = up l.length l.length ∧ J ys W') ∨ (∃ pre, pre <+: up l.length l.length ∧ Jx pre W')) := by
  have HY := Lib.hid hY
  have HCR := Lib.hid cr
  have HS := Lib.hid h2
  have HJ := Lib.hid hJ
  have HB := Lib.hid (fun j (h : j < l.length) => up_step h)
  have HBL := Lib.hid (fun k (h : k ≤ l.length) => up_len l.length k h)
  obtain ⟨m, hm'⟩ : ∃ m, m = l.length := ⟨_, rfl⟩
  rw [← hm'] at b1 hm
  have HM := Lib.hid hm'
  clear hY cr hm' h2 hJ
  refine callsIn_of_wp Tryz.func145 rfl trivial ?_ rfl
  simp only [Tryz.ntmps145, List.size_toArray, List.length_cons, List.length_nil, Nat.reduceAdd, Nat.reduceSub, Array.replicate_succ, Array.replicate_zero, List.push_toArray, List.append_toArray, List.nil_append, List.cons_append]
  gi_wp2
  gi_loopw [7] (fun i wr => ∃ k : Nat, i = .int .i64 k ∧ k ≤ m ∧ J (up l.length k) wr ∧ Prs wr S a l ∧ W.heap.size ≤ wr.heap.size) (fun i _ => m - (intOf i).toNat)
  case atStart => exact ⟨0, rfl, Nat.zero_le _, h0, HCR.out, Nat.le_refl _⟩
  case round =>
    clear h0
    obtain ⟨k, rfl, hk, hj, hp, hsz⟩ := hrel
    have HJK := Lib.hid hj
    have HP := Lib.hid hp
    have HSZ := Lib.hid hsz
    by_cases hlt : k < m
    · have hkl : k < l.length := by rw [← HM.out]; exact hlt
      obtain ⟨b, o, hb, rfl, hx⟩ := hp (by omega)
      have hx := hx k hkl
      obtain ⟨x, hxe⟩ : ∃ x, l.getD k pr0 = x := ⟨_, rfl⟩
      rw [hxe] at hx
      obtain ⟨c0, c1⟩ := hx
      clear hj hp hsz
      have HX := Lib.hid hxe
      clear hxe
      obtain ⟨W2, hW2⟩ : ∃ W2, wr.alloc (.cells #[.string x.key, .string x.val] 74) = W2 := ⟨_, rfl⟩
      have f2 : Fr No wr W2 := by rw [← hW2]; exact (Fr.refl No wr).alloc _
      have a2 : At W2 wr.heap.size 74 #[.string x.key, .string x.val] := by rw [← hW2]; exact At.new _ _ _
      have q0 := a2.cell 0
      have q1 := a2.cell 1
      rw [← hW2] at q0 q1
      have hy0 := HY.out (up l.length k) ⟨k, hkl⟩ W2 (abides_fr HJ.out HJK.out f2) (by rw [HBL.out _ (by omega)]; exact hkl)
      rw [show l.getD (⟨k, hkl⟩ : Plc l.length).val pr0 = x from HX.out] at hy0
      have HST := Lib.hid (HB.out k hkl)
      have HP2 := Lib.hid (HP.out.keep f2 (fun _ _ h => h))
      have HS2 := Lib.hid (Nat.le_trans HSZ.out f2.size)
      obtain ⟨fn, tmps, assign, body, hy, hR⟩ := hy0
      have hy : (Instr.yield y #[.agg #[.string x.key, .string x.val]]).run Tryz.prog W2 = .ok (.round y fn tmps assign body) W2 := hy
      rw [← hW2] at hy hR
      have HWW := Lib.hid hW2
      clear f2 a2 hW2
      gi_wp2
      refine hR.mono ?_
      rintro e W3 (⟨rfl, hJ3, hk3⟩ | ⟨rfl, hJx3⟩)
      · have HJ3 := Lib.hid hJ3
        have HK3 := Lib.hid hk3
        clear hJ3 hk3 hR hy q0 q1
        gi_wp2
        go_roundw
        case rel =>
          refine ⟨k + 1, by simp, by omega, by rw [HST.out]; exact HJ3.out, ?_, ?_⟩
          · exact HP2.out.keepQ (by rw [← HWW.out]; exact HK3.out) HS.out
          · have h5 := HK3.out.size
            rw [HWW.out] at h5
            exact Nat.le_trans HS2.out h5
        case measure => simp [intOf]; omega
      · have HJ3 := Lib.hid hJx3
        clear hJx3 hR hy q0 q1
        gi_wp2
        refine bodyPost_ret (results_none rfl _ _ _) rfl ?_
        refine ⟨⟨_, rfl⟩, .inr ⟨_, ?_, HJ3.out⟩⟩
        rw [← HST.out]
        have := up_prefix l.length (k + 1) (l.length - (k + 1))
        rw [show k + 1 + (l.length - (k + 1)) = l.length by omega] at this
        exact this
    · have hkm : k = l.length := by rw [← HM.out]; omega
      clear hj hp hsz
      gi_wp2
      go_end0
      exact ⟨⟨_, rfl⟩, .inl ⟨_, rfl, by rw [hkm] at HJK; exact HJK.out⟩⟩
/-- How many bytes a text has. -/
def szOf : Value → Nat
  | .string s => s.size
  | _ => 0
theorem readR_step {e k : Nat} {L : List Pr} {ah b : ByteArray} (hk : k ≤ L.length) (h : readR e k ah b = L.drop k) :
    (b.size = 0 → k = L.length) ∧ (nextR b (if k % e = 0 then emp else ah) = none → k = L.length) ∧
    (∀ p r, nextR b (if k % e = 0 then emp else ah) = some (p, r) → k < L.length ∧ L.getD k pr0 = p ∧ readR e (k + 1) p.key r = L.drop (k + 1)) := by
  have z : L.drop k = [] → k = L.length := fun h => by
    have := congrArg List.length h
    rw [List.length_drop, List.length_nil] at this
    omega
  refine ⟨fun h1 => z (by rw [← h, readR_nil _ _ _ _ h1]), fun h1 => z (by rw [← h, readR_none h1]), fun p r h1 => ?_⟩
  rw [readR_some h1] at h
  have hl : k < L.length := by
    have := congrArg List.length h
    rw [List.length_drop, List.length_cons] at this
    omega
  rw [List.drop_eq_getElem_cons hl] at h
  obtain ⟨h2, h3⟩ := List.cons.inj h
  exact ⟨hl, by rw [getD_pr L k hl]; exact h2.symm, h3⟩
set_option maxRecDepth 100000 in
set_option maxHeartbeats 2000000 in
theorem read_in (n : Nat) (hn : 1 ≤ n) (y B1 B2 e : Nat) (b : ByteArray) (S0 : Nat → Prop) (hb : b.size ≤ 10000000000) (he : 1 ≤ e) (he2 : e ≤ 64) (h1 : S0 B2) (L : List Pr) (hL : readR e 0 emp b = L) (J Jx : List (Plc L.length) → World → Prop)
    (W : World) (hJ : AbidesFrom W.heap.size J)
    (hY : ∀ pre (z : Plc L.length) W1, J pre W1 → pre.length < L.length → YieldAt Fence.wide (n - 1) Tryz.prog y #[prV (L.getD z.val pr0)] W1 fun e W' =>
      (e = .returned (.bool true) ∧ J (pre ++ [z]) W' ∧ Kq S0 W1 W') ∨ (e = .returned (.bool false) ∧ Jx (pre ++ [z]) W'))
    (b1 : W.cell? ⟨B1, 0, none⟩ = some (.string b)) (b2 : W.cell? ⟨B2, 0, none⟩ = some (.int .i64 (e : Int))) (h0 : J [] W) :
    CallsIn Fence.wide n Tryz.prog 149 #[.func (.yield y) #[] #[], .pointer (some ⟨B1, 0, none⟩), .pointer (some ⟨B2, 0, none⟩)] W fun e W' => (∃ v, e = .returned v) ∧
      ((∃ ys, ys = up L.length L.length ∧ J ys W') ∨ (∃ pre, pre <+: up L.length L.length ∧ Jx pre W')) := by
  have HY := Lib.hid hY
  have HJ := Lib.hid hJ
  have HB := Lib.hid (fun j (h : j < L.length) => up_step h)
  have HBL := Lib.hid (fun k (h : k ≤ L.length) => up_len L.length k h)
  have HL : Hid (readR e 0 emp b = L.drop 0) := Lib.hid hL
  have HSTEP := Lib.hid (fun (k : Nat) (ah b : ByteArray) (hk : k ≤ L.length) (h : readR e k ah b = L.drop k) => readR_step hk h)
  have hL3 : L.length ≤ b.size := by
    have := (readR_low e b).1
    rw [hL] at this
    omega
  obtain ⟨m, hm'⟩ : ∃ m, m = L.length := ⟨_, rfl⟩
  have HM := Lib.hid hm'
  rw [← hm'] at hL3
  clear hY hm' hJ hL
  refine callsIn_of_wp Tryz.func149 rfl trivial ?_ rfl
  simp only [Tryz.ntmps149, List.size_toArray, List.length_cons, List.length_nil, Nat.reduceAdd, Nat.reduceSub, Array.replicate_succ, Array.replicate_zero, List.push_toArray, List.append_toArray, List.nil_append, List.cons_append]
  gi_wp2
  gi_loopw [4, 5, 6] (fun r q i wr => ∃ (k : Nat) (rest ah : ByteArray), r = .string rest ∧ q = .string ah ∧ i = .int .i64 k ∧ k ≤ m ∧ J (up L.length k) wr ∧ readR e k ah rest = L.drop k ∧ ah.size + rest.size ≤ b.size ∧ wr.cell? ⟨B2, 0, none⟩ = some (.int .i64 (e : Int)) ∧ W.heap.size ≤ wr.heap.size) (fun r _ _ _ => szOf r)
  case atStart => exact ⟨0, b, emp, rfl, rfl, rfl, Nat.zero_le _, h0, HL.out, by show emp.size + _ ≤ _; have : emp.size = 0 := rfl; omega, b2, Nat.le_refl _⟩
  case round =>
    clear h0
    obtain ⟨k, rest, ah, rfl, rfl, rfl, hk, hj, hr, hs, hb2, hsz⟩ := hrel
    have HJK := Lib.hid hj
    have HSZ := Lib.hid hsz
    have HST := Lib.hid (HSTEP.out k ah rest (by rw [← HM.out]; exact hk) hr)
    by_cases hz : rest.size = 0
    · have hie : rest.toList.isEmpty = true := by rw [toList_bs, List.isEmpty_iff]; exact List.eq_nil_of_length_eq_zero (by rw [bs_length]; exact hz)
      have hkm : k = L.length := HST.out.1 hz
      have HKM := Lib.hid hkm
      clear hj hr hsz HST hkm hz
      gi_wp2
      go_end0
      exact ⟨⟨_, rfl⟩, .inl ⟨_, rfl, by have h9 := HJK.out; rw [HKM.out] at h9; exact h9⟩⟩
    · have hie : rest.toList.isEmpty = false := by
        rw [toList_bs, ← Bool.not_eq_true, List.isEmpty_iff]
        intro h9
        exact hz (by rw [← bs_length, h9]; rfl)
      clear hz
      by_cases hke : k % e = 0
      · have hrem : ((k : Int) % (e : Int) == 0) = true := by
          obtain ⟨q, hq⟩ : ∃ q, k % e = q := ⟨_, rfl⟩
          rw [hq] at hke
          have e1 : (k : Int) % (e : Int) = (q : Int) := by rw [← hq]; rfl
          rw [e1]
          first | (rw [beq_iff_eq]; omega) | (rw [beq_eq_false_iff_ne]; omega)
        have HST2 : Hid (_ ∧ _) := Lib.hid HST.out.2
        rw [if_pos hke] at HST2
        have CN : Calls Tryz.prog 150 #[.string rest, .string emp] wr (NxRet rest emp wr) := next_c rest emp wr (by omega) (by first | omega | (show (0 : Nat) ≤ _; omega))
        have HIE := Lib.hid hie
        have HKE := Lib.hid hke
        have HS := Lib.hid hs
        unfold NxRet at CN
        cases hnx : nextR rest emp with
        | none =>
          have hkm : k = L.length := HST2.out.1 hnx
          have HKM := Lib.hid hkm
          rw [hnx] at CN
          have CN := Lib.hid CN
          clear hj hr hsz hs hke hkm hnx HST
          unfold prV pr0 emp at CN
          gi_wp2_with (refine ⟨trivial, ?_⟩; gi_at_call 150; refine (callsIn_wide.2 CN.out).mono ?_; rintro e1 w3 ⟨f3, rfl⟩; have HF3 := Lib.hid f3; clear f3)
          refine ⟨fun f h => absurd h (by simp), ?_⟩
          gi_wp2
          refine bodyPost_ret (results_none rfl _ _ _) rfl ?_
          refine ⟨⟨_, rfl⟩, .inl ⟨_, rfl, ?_⟩⟩
          have h9 := abides_fr HJ.out HJK.out (HF3.out.alloc (.cells #[.string ByteArray.empty, .string ByteArray.empty] 74))
          rw [HKM.out] at h9
          exact h9
        | some pr =>
          obtain ⟨p, r⟩ := pr
          obtain ⟨hkl, hpe, hrr⟩ := HST2.out.2 p r hnx
          obtain ⟨z1, z2, z3, z4⟩ := next_sizes hnx
          rw [hnx] at CN
          have CN := Lib.hid CN
          have HRR := Lib.hid hrr
          have HSB : Hid (r.size < rest.size ∧ p.key.size + r.size ≤ b.size) := Lib.hid ⟨by omega, by first | omega | (have : emp.size = 0 := rfl; omega)⟩
          have HST3 := Lib.hid (HB.out k hkl)
          have HYY : Hid (∀ w3, Fr No wr w3 → YieldAt Fence.wide (n - 1) Tryz.prog y #[.agg #[.string p.key, .string p.val]] (w3.alloc (.cells #[.string p.key, .string p.val] 74)) fun e W' =>
              (e = .returned (.bool true) ∧ J (up L.length (k + 1)) W' ∧ Kq S0 (w3.alloc (.cells #[.string p.key, .string p.val] 74)) W') ∨ (e = .returned (.bool false) ∧ Jx (up L.length (k + 1)) W')) := Lib.hid fun w3 f3 => by
            have q := HY.out (up L.length k) ⟨k, hkl⟩ _ (abides_fr HJ.out HJK.out (f3.alloc (.cells #[.string p.key, .string p.val] 74))) (by rw [HBL.out _ (by omega)]; exact hkl)
            rw [show L.getD (⟨k, hkl⟩ : Plc L.length).val pr0 = p from hpe, ← HST3.out] at q
            exact q
          clear hj hr hsz hs hke hnx HST hpe hrr z1 z2 z3 z4
          unfold prV at CN
          have hkm : k < m := by rw [HM.out]; exact hkl
          gi_wp2_with (refine ⟨trivial, ?_⟩; gi_at_call 150; refine (callsIn_wide.2 CN.out).mono ?_; rintro e1 w3 ⟨f3, rfl⟩; have HF3 := Lib.hid f3; obtain ⟨fn, tmps, assign, body, hy, hR⟩ := HYY.out w3 f3; have a2 := At.new w3 74 #[.string p.key, .string p.val]; have q0 := a2.cell 0; have q1 := a2.cell 1; clear f3 a2)
          refine hR.mono ?_
          rintro e5 W5 (⟨rfl, hJ3, hk3⟩ | ⟨rfl, hJx3⟩)
          · have a5 := hk3.pair (At.new w3 74 #[.string p.key, .string p.val])
            have q5 := a5.cell 0
            have HB5 : Hid (W5.cell? ⟨B2, 0, none⟩ = some (.int .i64 (e : Int))) := Lib.hid (hk3.cell ((HF3.out.alloc _).cell hb2 (fun h => h)) h1)
            have HS5 : Hid (W.heap.size ≤ W5.heap.size) := Lib.hid (by
              have h5 := hk3.size
              have h6 := HF3.out.size
              have h7 := HSZ.out
              rw [World.size_alloc] at h5
              omega)
            have HJ3 := Lib.hid hJ3
            clear hJ3 hk3 hR hy q0 q1 a5
            gi_wp2
            refine wpIn_wide.2 ?_
            go_quiet (fail)
            gi_wp2
            go_roundw
            case rel =>
              have fq := (Fr.refl No W5).drewN nq
              exact ⟨k + 1, r, p.key, rfl, rfl, by simp, by omega, abides_fr HJ.out HJ3.out fq, HRR.out, HSB.out.2, fq.cell HB5.out (fun h => h), Nat.le_trans HS5.out fq.size⟩
            case measure => exact HSB.out.1
          · have HJ3 := Lib.hid hJx3
            clear hJx3 hR hy q0 q1
            gi_wp2
            refine bodyPost_ret (results_none rfl _ _ _) rfl ?_
            refine ⟨⟨_, rfl⟩, .inr ⟨_, ?_, HJ3.out⟩⟩
            have := up_prefix L.length (k + 1) (L.length - (k + 1))
            rw [show k + 1 + (L.length - (k + 1)) = L.length by have := HM.out; omega] at this
            exact this
      · have hrem : ((k : Int) % (e : Int) == 0) = false := by
          obtain ⟨q, hq⟩ : ∃ q, k % e = q := ⟨_, rfl⟩
          rw [hq] at hke
          have e1 : (k : Int) % (e : Int) = (q : Int) := by rw [← hq]; rfl
          rw [e1]
          first | (rw [beq_iff_eq]; omega) | (rw [beq_eq_false_iff_ne]; omega)
        have HST2 : Hid (_ ∧ _) := Lib.hid HST.out.2
        rw [if_neg hke] at HST2
        have CN : Calls Tryz.prog 150 #[.string rest, .string ah] wr (NxRet rest ah wr) := next_c rest ah wr (by omega) (by first | omega | (show (0 : Nat) ≤ _; omega))
        have HIE := Lib.hid hie
        have HKE := Lib.hid hke
        have HS := Lib.hid hs
        unfold NxRet at CN
        cases hnx : nextR rest ah with
        | none =>
          have hkm : k = L.length := HST2.out.1 hnx
          have HKM := Lib.hid hkm
          rw [hnx] at CN
          have CN := Lib.hid CN
          clear hj hr hsz hs hke hkm hnx HST
          unfold prV pr0 emp at CN
          gi_wp2_with (refine ⟨trivial, ?_⟩; gi_at_call 150; refine (callsIn_wide.2 CN.out).mono ?_; rintro e1 w3 ⟨f3, rfl⟩; have HF3 := Lib.hid f3; clear f3)
          refine ⟨fun f h => absurd h (by simp), ?_⟩
          gi_wp2
          refine bodyPost_ret (results_none rfl _ _ _) rfl ?_
          refine ⟨⟨_, rfl⟩, .inl ⟨_, rfl, ?_⟩⟩
          have h9 := abides_fr HJ.out HJK.out (HF3.out.alloc (.cells #[.string ByteArray.empty, .string ByteArray.empty] 74))
          rw [HKM.out] at h9
          exact h9
        | some pr =>
          obtain ⟨p, r⟩ := pr
          obtain ⟨hkl, hpe, hrr⟩ := HST2.out.2 p r hnx
          obtain ⟨z1, z2, z3, z4⟩ := next_sizes hnx
          rw [hnx] at CN
          have CN := Lib.hid CN
          have HRR := Lib.hid hrr
          have HSB : Hid (r.size < rest.size ∧ p.key.size + r.size ≤ b.size) := Lib.hid ⟨by omega, by first | omega | (have : emp.size = 0 := rfl; omega)⟩
          have HST3 := Lib.hid (HB.out k hkl)
          have HYY : Hid (∀ w3, Fr No wr w3 → YieldAt Fence.wide (n - 1) Tryz.prog y #[.agg #[.string p.key, .string p.val]] (w3.alloc (.cells #[.string p.key, .string p.val] 74)) fun e W' =>
              (e = .returned (.bool true) ∧ J (up L.length (k + 1)) W' ∧ Kq S0 (w3.alloc (.cells #[.string p.key, .string p.val] 74)) W') ∨ (e = .returned (.bool false) ∧ Jx (up L.length (k + 1)) W')) := Lib.hid fun w3 f3 => by
            have q := HY.out (up L.length k) ⟨k, hkl⟩ _ (abides_fr HJ.out HJK.out (f3.alloc (.cells #[.string p.key, .string p.val] 74))) (by rw [HBL.out _ (by omega)]; exact hkl)
            rw [show L.getD (⟨k, hkl⟩ : Plc L.length).val pr0 = p from hpe, ← HST3.out] at q
            exact q
          clear hj hr hsz hs hke hnx HST hpe hrr z1 z2 z3 z4
          unfold prV at CN
          have hkm : k < m := by rw [HM.out]; exact hkl
          gi_wp2_with (refine ⟨trivial, ?_⟩; gi_at_call 150; refine (callsIn_wide.2 CN.out).mono ?_; rintro e1 w3 ⟨f3, rfl⟩; have HF3 := Lib.hid f3; obtain ⟨fn, tmps, assign, body, hy, hR⟩ := HYY.out w3 f3; have a2 := At.new w3 74 #[.string p.key, .string p.val]; have q0 := a2.cell 0; have q1 := a2.cell 1; clear f3 a2)
          refine hR.mono ?_
          rintro e5 W5 (⟨rfl, hJ3, hk3⟩ | ⟨rfl, hJx3⟩)
          · have a5 := hk3.pair (At.new w3 74 #[.string p.key, .string p.val])
            have q5 := a5.cell 0
            have HB5 : Hid (W5.cell? ⟨B2, 0, none⟩ = some (.int .i64 (e : Int))) := Lib.hid (hk3.cell ((HF3.out.alloc _).cell hb2 (fun h => h)) h1)
            have HS5 : Hid (W.heap.size ≤ W5.heap.size) := Lib.hid (by
              have h5 := hk3.size
              have h6 := HF3.out.size
              have h7 := HSZ.out
              rw [World.size_alloc] at h5
              omega)
            have HJ3 := Lib.hid hJ3
            clear hJ3 hk3 hR hy q0 q1 a5
            gi_wp2
            refine wpIn_wide.2 ?_
            go_quiet (fail)
            gi_wp2
            go_roundw
            case rel =>
              have fq := (Fr.refl No W5).drewN nq
              exact ⟨k + 1, r, p.key, rfl, rfl, by simp, by omega, abides_fr HJ.out HJ3.out fq, HRR.out, HSB.out.2, fq.cell HB5.out (fun h => h), Nat.le_trans HS5.out fq.size⟩
            case measure => exact HSB.out.1
          · have HJ3 := Lib.hid hJx3
            clear hJx3 hR hy q0 q1
            gi_wp2
            refine bodyPost_ret (results_none rfl _ _ _) rfl ?_
            refine ⟨⟨_, rfl⟩, .inr ⟨_, ?_, HJ3.out⟩⟩
            have := up_prefix L.length (k + 1) (L.length - (k + 1))
            rw [show k + 1 + (L.length - (k + 1)) = L.length by have := HM.out; omega] at this
            exact this
abbrev seqV (B1 : Nat) : Value := .func (.func 145) #[] #[.pointer (some ⟨B1, 0, none⟩)]
abbrev seqR (B1 B2 : Nat) : Value := .func (.func 149) #[] #[.pointer (some ⟨B1, 0, none⟩), .pointer (some ⟨B2, 0, none⟩)]
/-- WHAT AN ITERATOR OVER PAIRS L TELLS. -/
def Tells (gf : Nat) (lb : Array Value) (L : List Pr) (S0 : Nat → Prop) (w : World) : Prop :=
  SeqStopsK Fence.wide 4 Tryz.prog gf lb (fun z : Plc L.length => #[prV (L.getD z.val pr0)]) (Kq S0) (fun ys => ys = up L.length L.length) (fun pre => pre <+: up L.length L.length) L.length w
theorem tells_values {w : World} {S S0 : Nat → Prop} {B1 : Nat} {a : Option Addr} {ca : Nat} {l : List Pr} (hm : l.length ≤ 1000000) (b1 : w.cell? ⟨B1, 0, none⟩ = some (.slice a l.length ca)) (hp : Prs w S a l) (hS : ∀ k, S k → S0 k) (hlt : ∀ k, S k → k < w.heap.size) :
    Tells 145 #[.pointer (some ⟨B1, 0, none⟩)] l S0 w := fun y J Jx W hW hJ _ hY h0 => by
  have k : ∀ {p : Addr} {v : Value}, w.cell? p = some v → W.cell? p = some v := fun h => (hW.cell (cell_block h)).trans h
  refine values_in 4 (by omega) y B1 a ca l S S0 hm hS J Jx W hJ hY (k b1) (fun hl => ?_) h0
  obtain ⟨b, o, hb, ha, hc⟩ := hp hl
  exact ⟨b, o, hb, ha, fun i hi => ⟨k (hc i hi).c0, k (hc i hi).c1⟩⟩
theorem tells_read {w : World} {S0 : Nat → Prop} {B1 B2 e : Nat} {b : ByteArray} (hb : b.size ≤ 10000000000) (he : 1 ≤ e) (he2 : e ≤ 64) (b1 : w.cell? ⟨B1, 0, none⟩ = some (.string b)) (b2 : w.cell? ⟨B2, 0, none⟩ = some (.int .i64 (e : Int))) (hS : S0 B2) :
    Tells 149 #[.pointer (some ⟨B1, 0, none⟩), .pointer (some ⟨B2, 0, none⟩)] (readR e 0 emp b) S0 w := fun y J Jx W hW hJ _ hY h0 => by
  have k : ∀ {p : Addr} {v : Value}, w.cell? p = some v → W.cell? p = some v := fun h => (hW.cell (cell_block h)).trans h
  exact read_in 4 (by omega) y B1 B2 e b S0 hb he he2 hS _ rfl J Jx W hJ hY (k b1) (k b2) h0
/-- What Values hands back. -/
def ValuesRet (a : Option Addr) (n ca : Nat) (w : World) (e : Ending) (w' : World) : Prop := ∃ B1, e = .returned (seqV B1) ∧ Fr No w w' ∧ w'.cell? ⟨B1, 0, none⟩ = some (.slice a n ca) ∧ w.heap.size ≤ B1
set_option maxHeartbeats 800000 in
theorem values_c (a : Option Addr) (ca n : Nat) (w : World) : Calls Tryz.prog 127 #[.slice a n ca] w (ValuesRet a n ca w) := by
  obtain ⟨w1, hw1⟩ : ∃ w1, w.alloc (.cells #[.slice a n ca] 71) = w1 := ⟨_, rfl⟩
  have f1 : Fr No w w1 := by rw [← hw1]; exact (Fr.refl No w).alloc _
  have a1 : At w1 w.heap.size 71 #[.slice a n ca] := by rw [← hw1]; exact At.new _ _ _
  have HR : Hid (ValuesRet a n ca w (.returned (seqV w.heap.size)) w1) := Lib.hid ⟨_, rfl, f1, a1.cell 0, Nat.le_refl _⟩
  have HW := Lib.hid hw1
  clear f1 a1 hw1
  go_enter Tryz.func127, Tryz.ntmps127
  go_wp2_with fail
  go_ret
  rw [HW.out]
  exact HR.out
/-- What read hands back. -/
def ReadRet (b : ByteArray) (n : Int) (w : World) (e : Ending) (w' : World) : Prop := ∃ B1 B2, e = .returned (seqR B1 B2) ∧ Fr No w w' ∧ w'.cell? ⟨B1, 0, none⟩ = some (.string b) ∧ w'.cell? ⟨B2, 0, none⟩ = some (.int .i64 n) ∧ w.heap.size ≤ B1 ∧ w.heap.size ≤ B2
set_option maxHeartbeats 800000 in
theorem read_c (b : ByteArray) (n : Int) (w : World) : Calls Tryz.prog 139 #[.string b, .int .i64 n] w (ReadRet b n w) := by
  obtain ⟨w1, hw1⟩ : ∃ w1, (w.alloc (.cells #[.string b] 9)).alloc (.cells #[.int .i64 n] 3) = w1 := ⟨_, rfl⟩
  have f1 : Fr No w w1 := by rw [← hw1]; exact ((Fr.refl No w).alloc _).alloc _
  have a1 : At w1 w.heap.size 9 #[.string b] := by rw [← hw1]; exact (At.new _ _ _).keep ((Fr.refl No _).alloc _) (fun h => h)
  have a2 : At w1 (w.heap.size + 1) 3 #[.int .i64 n] := by
    have := At.new (w.alloc (.cells #[.string b] 9)) 3 #[.int .i64 n]
    rw [World.size_alloc] at this
    rw [← hw1]
    exact this
  have HR : Hid (ReadRet b n w (.returned (seqR w.heap.size (w.heap.size + 1))) w1) := Lib.hid ⟨_, _, rfl, f1, a1.cell 0, a2.cell 0, Nat.le_refl _, Nat.le_succ _⟩
  have HW := Lib.hid hw1
  clear f1 a1 a2 hw1
  go_enter Tryz.func139, Tryz.ntmps139
  go_wp2_with fail
  go_ret
  rw [HW.out]
  exact HR.out
end Go.Proofs.YtlobnbbndkhcbaaGreatDoor
