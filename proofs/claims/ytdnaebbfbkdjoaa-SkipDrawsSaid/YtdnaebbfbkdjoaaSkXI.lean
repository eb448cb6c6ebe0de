/-
  Layer 5, lists of int,int: Keys, Last.
-/
import Derived.Test.YtdnaebbfbkdjoaaSkVI
namespace Go.Proofs.Ytdnaebbfbkdjoaa.KI
set_option linter.unusedVariables false
open Go.RowKit

theorem rowK : RowT Try.prog 23 3 (Value.int .i64 0) 1 8 := ⟨Try.underlying23, by kernel_rfl, rfl, by decide⟩
def keysC (ns : List N2) : List Value := ns.map fun x => (Value.int .i64) x.k
theorem keysC_length (ns : List N2) : (keysC ns).length = ns.length := by simp [keysC]
theorem make_keys (w : World) (c : Nat) (hc : c ≤ 100000) : ∃ v w', (Instr.makeSlice 23 (.int .i64 0) (.int .i64 (c : Int))).run Try.prog w = .ok v w' ∧ RowG w' (Gr No w w') 3 1 v 0 [] ∧ Fr No w w' := by
  obtain ⟨i0, hi, hz0, hz1, hz2⟩ := info_parts rowK.info
  have hr := run_make (P := Try.prog) w 23 3 i0 (Value.int .i64 0) Try.underlying23 hi hz0 .i64 .i64 0 c (by omega) (by omega) (by rw [hz2]; omega) (by omega)
  rw [hz1] at hr
  refine ⟨_, _, hr, ⟨⟨rfl, .inr ⟨w.heap.size, c, _, rfl, Nat.zero_le _, heap_alloc_new w _, Nat.zero_le _, by unfold maxLen; omega, ?_, rfl⟩⟩, ?_⟩, (Fr.refl No w).alloc _⟩
  · simp [size_madeCells]
  · intro b hb
    have hb : w.heap.size = b := by simpa [Value.ownBlock] using hb
    exact .inr ⟨by omega, by simp; omega⟩
theorem next_at {ns : List N2} (hs : Sorted ltI ns) (j : Nat) (hj : j < ns.length) : nextN ltI ns (ns[j]).k = ns[j + 1]? := by
  have pw := List.pairwise_iff_getElem.1 hs
  by_cases h : j + 1 < ns.length
  · rw [List.getElem?_eq_getElem h]
    refine find_of_least ordI hs (List.getElem_mem h) (pw j (j + 1) hj h (by omega)) fun x hx hp => ?_
    obtain ⟨t, ht, rfl⟩ := List.getElem_of_mem hx
    rcases Nat.lt_trichotomy t (j + 1) with h1 | h1 | h1
    · exfalso
      have hp : ltI (ns[j]).k (ns[t]).k = true := hp
      rcases Nat.lt_or_ge t j with h2 | h2
      · rw [(ordI).asym (pw t j ht hj h2)] at hp
        cases hp
      · obtain rfl : t = j := by omega
        rw [(ordI).irr] at hp
        cases hp
    · left
      subst h1
      rfl
    · exact .inr (pw (j + 1) t h ht h1)
  · rw [List.getElem?_eq_none (by omega)]
    refine find_none fun x hx => ?_
    obtain ⟨t, ht, rfl⟩ := List.getElem_of_mem hx
    rcases Nat.lt_or_ge t j with h2 | h2
    · exact (ordI).asym (pw t j ht hj h2)
    · obtain rfl : t = j := by omega
      exact (ordI).irr _
def leftW (ns : List N2) (v : Value) : Nat := match v with
  | .pointer (some a) => leftV ns v + 1
  | _ => 0
/-- The keys behind a put. -/
theorem PutS.keys {ns ns' : List N2} {k : Int} {v : Int} {h : Int} {e : Ending} (hp : PutS ns k v h e ns') (hh : ¬ (h < 1 ∨ 12 < h)) :
    (∀ x, (∃ n ∈ ns', n.k = x) ↔ (x = k ∨ ∃ n ∈ ns, n.k = x)) ∧ ns'.length ≤ ns.length + 1 ∧ ∃ b, e = .returned (.tuple #[.bool b, .int .i64 0]) := by
  rcases hp with ⟨h1, _⟩ | ⟨_, x, hx, hk, he, rfl⟩ | ⟨_, hn, nd, hk, hv, hh', he, rfl⟩
  · exact absurd h1 hh
  · refine ⟨fun z => ⟨?_, ?_⟩, by simp, false, he⟩
    · rintro ⟨n, hn, rfl⟩
      obtain ⟨n', hn', rfl⟩ := List.mem_map.1 hn
      exact .inr ⟨n', hn', (setN_k _ _ _).symm⟩
    · rintro (rfl | ⟨n, hn, rfl⟩)
      · exact ⟨_, List.mem_map_of_mem hx, (setN_k _ _ _).trans hk⟩
      · exact ⟨_, List.mem_map_of_mem hn, setN_k _ _ _⟩
  · refine ⟨fun z => ⟨?_, ?_⟩, by rw [insN_length]; omega, true, he⟩
    · rintro ⟨n, hn, rfl⟩
      rcases (insN_mem nd ns n).1 hn with rfl | hn
      · exact .inl hk
      · exact .inr ⟨n, hn, rfl⟩
    · rintro (rfl | ⟨n, hn, rfl⟩)
      · exact ⟨nd, (insN_mem nd ns nd).2 (.inl rfl), hk⟩
      · exact ⟨n, (insN_mem nd ns n).2 (.inr hn), rfl⟩
/-- All values are alike, if they were and this one is. -/
theorem PutS.vals {ns ns' : List N2} {k : Int} {v : Int} {h : Int} {e : Ending} (hp : PutS ns k v h e ns') (hv : ∀ x ∈ ns, x.v = v) : ∀ x ∈ ns', x.v = v := by
  rcases hp with ⟨_, _, rfl⟩ | ⟨_, x, hx, hk, he, rfl⟩ | ⟨_, hn, nd, hk, hv', hh', he, rfl⟩
  · exact hv
  · intro z hz
    obtain ⟨y, hy, rfl⟩ := List.mem_map.1 hz
    unfold setN
    split
    · rfl
    · exact hv y hy
  · intro z hz
    rcases (insN_mem nd ns z).1 hz with rfl | hz
    · exact hv'
    · exact hv z hz
theorem PutS.bad {ns ns' : List N2} {k : Int} {v : Int} {h : Int} {e : Ending} (hp : PutS ns k v h e ns') (hh : h < 1 ∨ 12 < h) : e = .returned (.tuple #[.bool false, .int .i64 70]) ∧ ns' = ns := by
  rcases hp with ⟨_, he, rfl⟩ | ⟨h1, _⟩ | ⟨h1, _⟩
  · exact ⟨he, rfl⟩
  · exact absurd hh h1
  · exact absurd hh h1
def kV (o : Option N2) : Value := match o with
  | none => (Value.int .i64 0)
  | some y => (Value.int .i64) y.k
def vV (o : Option N2) : Value := match o with
  | none => (Value.int .i64 0)
  | some y => (Value.int .i64) y.v
def okV (o : Option N2) : Value := match o with
  | none => .bool false
  | some _ => .bool true
theorem tell_parts (o : Option N2) : tellV o = .tuple #[kV o, vV o, okV o] := by cases o <;> rfl
def backN (ns : List N2) : Nat → Option N2
  | 0 => none
  | j + 1 => ns[j]?
theorem last_back (ns : List N2) : ns.getLast? = backN ns ns.length := by
  cases h : ns.length with
  | zero => rw [List.eq_nil_of_length_eq_zero h]; rfl
  | succ n => rw [List.getLast?_eq_getElem?, h]; rfl
theorem prev_at {ns : List N2} (hs : Sorted ltI ns) (j : Nat) (hj : j < ns.length) : prevN ltI ns (ns[j]).k = backN ns j := by
  have pw := List.pairwise_iff_getElem.1 hs
  have low : ∀ t (ht : t < ns.length), j ≤ t → ltI (ns[t]).k (ns[j]).k = false := fun t ht h => by
    rcases Nat.lt_or_ge j t with h2 | h2
    · exact (ordI).asym (pw j t hj ht h2)
    · obtain rfl : t = j := by omega
      exact (ordI).irr _
  cases j with
  | zero =>
    refine lastN_none fun x hx => ?_
    obtain ⟨t, ht, rfl⟩ := List.getElem_of_mem hx
    exact low t ht (Nat.zero_le _)
  | succ j =>
    show _ = ns[j]?
    rw [List.getElem?_eq_getElem (by omega)]
    refine lastN_of (o := ordI) hs (List.getElem_mem _) (pw j (j + 1) (by omega) hj (by omega)) fun x hx hp => ?_
    obtain ⟨t, ht, rfl⟩ := List.getElem_of_mem hx
    rcases Nat.lt_trichotomy t j with h1 | h1 | h1
    · exact .inr (pw t j ht (by omega) h1)
    · left
      subst h1
      rfl
    · have hp : ltI (ns[t]).k (ns[j + 1]).k = true := hp
      rw [low t ht (by omega)] at hp
      cases hp
theorem keysC_at {ns : List N2} (j : Nat) (hj : j < ns.length) : (keysC ns)[j]? = some ((Value.int .i64) (ns[j]).k) := by simp [keysC, hj]
/-- What Keys tells. -/
structure KeysRet (ns : List N2) (w : World) (e : Ending) (w' : World) : Prop where
  ex : ∃ v, e = .returned v ∧ RowG w' (Gr No w w') 3 1 v ns.length (keysC ns)
  fr : Fr No w w'
set_option maxRecDepth 20000 in
set_option maxHeartbeats 2000000 in
theorem keys_c (b hb hs : Nat) (ns : List N2) (w : World) (H : SkL w b hb hs ns) (hl : ns.length ≤ 10000) :
    Calls Try.prog 26 #[.pointer (some ⟨b, 0, none⟩)] w (KeysRet ns w) := by
  obtain ⟨v0, w1, hmk, hrow, hfr⟩ := make_keys w ns.length (by omega)
  have HL1 := Lib.hid (H.keep hfr (fun _ _ h => h))
  have c0 := H.lst.cell 1
  simp at c0
  have c1 := HL1.out.lst.cell 0
  simp at c1
  obtain ⟨n0, q0, q1, _, q3, _⟩ := HL1.out.place none 0 (by omega) (fun x hx => by cases hx)
  have q4 : 0 < n0 := q1
  rw [show (Option.map (fun x : N2 => x.k) none) = none from rfl, nxt_first (fun x hx => (H.hts x hx).1)] at q3
  rw [show spotN hb (none : Option N2) = hb from rfl] at q0
  rw [show slotN hs (none : Option N2) = hs from rfl] at q0 q3
  obtain ⟨u0, hu0⟩ := ptr_letter ns.head?
  rw [hu0] at q3
  have HU0 := Lib.hid hu0
  have HL := Lib.hid H
  have HROW := Lib.hid hrow
  have HFR := Lib.hid hfr
  have HPUSH := Lib.hid (fun (wr : World) (vo : Value) (n : Nat) (cs : List Value) (x : Int) (hrow : RowG wr (Gr No w wr) 3 1 vo n cs) (hfr : Fr No w wr) (hl : n ≤ 100000) =>
    show ∃ v' w', (Builtin.append_ #[23, 23] 23 #[vo, .slice (some ⟨wr.heap.size, 0, none⟩) 1 1]).run Try.prog (wr.alloc (.cells #[(Value.int .i64) x] 3)) = .ok v' w' ∧
        RowG w' (Gr No w w') 3 1 v' (n + 1) (cs ++ [(Value.int .i64) x]) ∧ Fr No w w' from by
      obtain ⟨v', w', h1, h2, h3⟩ := hrow.push rowK (fun q hq => hq.elim (fun h => h.elim) (fun h => h.2)) [(Value.int .i64) x] rfl (by intro u hu; simp at hu; subst hu; rfl) (by omega) (by omega)
      exact ⟨v', w', h1, h2.join hfr.size h3.size, hfr.then_ h3 fun q hq h => h.elim (fun h => h) (fun h => absurd hq (by omega))⟩)
  clear H hu0 hrow hfr q1
  go_enter Try.func26, Try.ntmps26
  go_wp2_with fail
  clear q0 q3 q4 c0 c1 hmk
  go_loopw [3, 4] (fun vo u wr => ∃ j : Nat, j ≤ ns.length ∧ u = ptrN ns[j]? ∧ RowG wr (Gr No w wr) 3 1 vo j ((keysC ns).take j) ∧ Fr No w wr) (fun _ u wr => leftW ns u)
  case atStart => exact ⟨0, Nat.zero_le _, by rw [← HU0.out, List.head?_eq_getElem?], HROW.out, HFR.out⟩
  case round =>
    obtain ⟨j, hj, rfl, hrow, hfr⟩ := hrel
    by_cases hjl : j = ns.length
    · subst hjl
      rw [List.getElem?_eq_none (Nat.le_refl _), show ptrN (none : Option N2) = .pointer none from rfl]
      have HW := Lib.hid hrow
      have HF := Lib.hid hfr
      clear hrow hfr
      go_wp2_with fail
      go_ret
      refine ⟨⟨_, rfl, ?_⟩, HF.out⟩
      have := HW.out
      rw [← keysC_length, List.take_length, keysC_length] at this
      exact this
    · have hj' : j < ns.length := by omega
      rw [List.getElem?_eq_getElem hj', show ptrN (some ns[j]) = .pointer (some ⟨(ns[j]).b, 0, none⟩) from rfl]
      have hx : ns[j] ∈ ns := List.getElem_mem hj'
      have HLr := Lib.hid (HL.out.keep hfr (fun _ _ h => h))
      obtain ⟨v1, w2, hrun, hrow1, hfr1⟩ := HPUSH.out wr _ j ((keysC ns).take j) (ns[j]).k hrow hfr (by omega)
      have q2 := (HLr.out.nod _ hx).1.cell 0
      simp at q2
      obtain ⟨n0, q0, q1, _, q3, _⟩ := (HL.out.keep hfr1 (fun _ _ h => h)).place (some ns[j]) 0 (by omega) (fun x hx' => by cases hx'; exact ⟨hx, (HL.out.hts _ hx).1⟩)
      have q4 : 0 < n0 := q1
      rw [show (Option.map (fun x : N2 => x.k) (some ns[j])) = some (ns[j]).k from rfl, nxt_zero (fun x hx => (HL.out.hts x hx).1), next_at HL.out.srt j hj'] at q3
      rw [show spotN hb (some ns[j]) = (ns[j]).b from rfl] at q0
      rw [show slotN hs (some ns[j]) = (ns[j]).s from rfl] at q0 q3
      have HST : Hid (leftW ns (ptrN ns[j + 1]?) < leftW ns (.pointer (some ⟨(ns[j]).b, 0, none⟩))) := Lib.hid (by
        by_cases h2 : j + 1 < ns.length
        · have hn := next_at HL.out.srt j hj'
          rw [← nxt_zero (fun x hx => (HL.out.hts x hx).1), List.getElem?_eq_getElem h2] at hn
          have := leftV_step HL.out (o := some ns[j]) (fun x hx' => by cases hx'; exact hx) (i := 0) hn
          rw [List.getElem?_eq_getElem h2]
          exact Nat.succ_lt_succ this
        · rw [List.getElem?_eq_none (by omega)]
          exact Nat.succ_pos _)
      obtain ⟨u1, hu1⟩ := ptr_letter ns[j + 1]?
      rw [hu1] at q3
      have HU1 := Lib.hid hu1
      have HW : Hid (RowG w2 (Gr No w w2) 3 1 v1 (j + 1) ((keysC ns).take (j + 1))) := Lib.hid (by
        have e : (keysC ns).take (j + 1) = (keysC ns).take j ++ [(Value.int .i64) (ns[j]).k] := by
          rw [List.take_add_one]
          simp [keysC, hj']
        rw [e]
        exact hrow1)
      have HF := Lib.hid hfr1
      have HRUN := Lib.hid hrun
      clear hrow hfr hrun hrow1 hfr1 hu1 q1 hx
      go_wp2_with (at_builtin; refine wpList_append_run rfl _ _ 23 rfl rfl rfl HRUN.out ?_)
      go_roundw
      case rel => exact ⟨j + 1, by omega, HU1.out.symm, HW.out, HF.out⟩
      case measure => rw [← HU1.out]; exact HST.out
set_option maxRecDepth 20000 in
set_option maxHeartbeats 2000000 in
theorem last_c (b hb hs : Nat) (ns : List N2) (w : World) (H : SkL w b hb hs ns) :
    Calls Try.prog 25 #[.pointer (some ⟨b, 0, none⟩)] w fun e w' => e = .returned (tellV ns.getLast?) ∧ Fr No w w' := by
  have c0 := H.lst.cell 0
  simp at c0
  have HL := Lib.hid H
  clear H
  go_enter Try.func25, Try.ntmps25
  go_wp2_with fail
  clear c0
  go_loopw [5, 6] (fun u i wr => ∃ (j : Nat) (o : Option N2), i = .int .i64 ((j : Int) - 1) ∧ j ≤ 12 ∧ u = .pointer (some ⟨spotN hb o, 0, none⟩) ∧ (∀ x, o = some x → x ∈ ns ∧ j ≤ x.h) ∧ (j < 12 → nxt ltI ns j (o.map (·.k)) = none) ∧ w = wr) (fun _ i _ => (intOf i + 1).toNat)
  case atStart => exact ⟨12, none, rfl, Nat.le_refl _, rfl, fun x hx => (by cases hx), fun h => absurd h (by omega), rfl⟩
  case round =>
    obtain ⟨j, o, hi, hj, rfl, ho, hno, rfl⟩ := hrel
    cases j with
    | zero =>
      rw [show (((0 : Nat) : Int) - 1) = -1 by omega] at hi
      subst hi
      have HE := Lib.hid (last_end ordI HL.out.srt (fun x hx => (HL.out.hts x hx).1) (fun x hx => (ho x hx).1) (hno (by omega)))
      have HT := Lib.hid (tell_c HL.out o (fun z hz => (ho z hz).1) (some ⟨spotN hb o, 0, none⟩) (by
        cases o with
        | none => exact .inr ⟨rfl, rfl⟩
        | some z => exact .inl rfl))
      clear ho hno
      obtain ⟨b0, hb0⟩ : ∃ s, spotN hb o = s := ⟨_, rfl⟩
      rw [hb0] at HT
      rw [hb0]
      clear hb0
      go_wp2_with fail
      refine HT.out.mono ?_
      rintro e w3 ⟨rfl, f2⟩
      have HF2 := Lib.hid f2
      clear f2
      cases o with
      | none =>
        rw [show tellV (none : Option N2) = .tuple #[(Value.int .i64 0), (Value.int .i64 0), .bool false] from rfl]
        go_wp2_with fail
        go_ret3
        exact ⟨by rw [← HE.out]; rfl, HF2.out⟩
      | some z =>
        rw [show tellV (some z) = .tuple #[(Value.int .i64) z.k, (Value.int .i64) z.v, .bool true] from rfl]
        go_wp2_with fail
        go_ret3
        exact ⟨by rw [← HE.out]; rfl, HF2.out⟩
    | succ j =>
      rw [show (((j + 1 : Nat) : Int) - 1) = (j : Int) by omega] at hi
      subst hi
      have HO := Lib.hid ho
      clear ho hno
      go_wp2_with fail
      go_loopw [5] (fun u wr' => ∃ o' : Option N2, u = .pointer (some ⟨spotN hb o', 0, none⟩) ∧ (∀ x, o' = some x → x ∈ ns ∧ j < x.h) ∧ w = wr') (fun u _ => leftV ns u)
      case atStart => exact ⟨o, rfl, fun x hx => ⟨(HO.out x hx).1, (HO.out x hx).2⟩, rfl⟩
      case round =>
        obtain ⟨o', rfl, ho', rfl⟩ := hrel
        obtain ⟨n, q0, q1, q2, q3, _⟩ := HL.out.place o' j (by omega) ho'
        obtain ⟨s, hs'⟩ : ∃ s, slotN hs o' = s := ⟨_, rfl⟩
        rw [hs'] at q0 q3
        have HO' := Lib.hid ho'
        clear ho'
        cases e : nxt ltI ns j (o'.map (·.k)) with
        | none =>
          rw [e] at q3
          replace q3 : w.cell? ⟨s, j, none⟩ = some (.pointer none) := q3
          have HE := Lib.hid e
          clear e
          go_wp2_with fail
          go_roundw
          case rel => exact ⟨j, o', rfl, by omega, rfl, fun x hx => ⟨(HO'.out x hx).1, Nat.le_of_lt (HO'.out x hx).2⟩, fun _ => HE.out, by simp⟩
          case measure => show (intOf (.int .i64 ((j : Int) - 1)) + 1).toNat < (intOf (.int .i64 (j : Int)) + 1).toNat
                          simp [intOf]
                          try omega
        | some y =>
          rw [e] at q3
          replace q3 : w.cell? ⟨s, j, none⟩ = some (.pointer (some ⟨y.b, 0, none⟩)) := q3
          have hy := nxt_some e
          have HST := Lib.hid (leftV_step HL.out (o := o') (fun x hx => (HO'.out x hx).1) e)
          have HY : Hid (∀ x, some y = some x → x ∈ ns ∧ j < x.h) := Lib.hid fun x hx => by
            cases hx
            exact ⟨hy.1, hy.2.1⟩
          clear hy e
          go_wp2_with fail
          go_roundw
          case rel => exact ⟨some y, rfl, HY.out, by simp⟩
          case measure => exact HST.out
end Go.Proofs.Ytdnaebbfbkdjoaa.KI
