/-
  Layer 5, lists of int,bool: what a list tells: ceil, tell, Get, Height, Len, and the neighbours.
-/
import Derived.Test.YtdnaebbfbkdjoaaSkQB
import Derived.OwnWalk
import Derived.LaidEqlPtr
namespace Go.Proofs.Ytdnaebbfbkdjoaa.KB
set_option linter.unusedVariables false
open Go.RowKit

/-- What is told of a node. -/
def tellV (o : Option N2) : Value := match o with
  | none => .tuple #[(Value.int .i64 0), (Value.bool false), .bool false]
  | some y => .tuple #[(Value.int .i64) y.k, Value.bool y.v, .bool true]
def getR (o : Option N2) : Value := match o with
  | none => .tuple #[(Value.bool false), .bool false]
  | some y => .tuple #[Value.bool y.v, .bool true]
def heightR (o : Option N2) : Value := match o with
  | none => .int .i64 0
  | some y => .int .i64 (y.h : Int)
theorem ptr_letter (o : Option N2) : ∃ u, ptrN o = .pointer u := by
  cases o with
  | none => exact ⟨_, rfl⟩
  | some z => exact ⟨_, rfl⟩
theorem absent_of {ns : List N2} (hs : Sorted ltI ns) {k : Int} {o : Option N2} (h : ceilN ltI ns k = o) (hN : hasN o k = false) : ∀ x ∈ ns, x.k ≠ k := by
  cases o with
  | none => exact ceil_none ordI h
  | some y => exact ceil_some ordI hs h (hasN_not hN y rfl)
theorem index0 (w : World) (PC : Array Value) (v : Value) (hz : PC[0]? = some v) : (Instr.index 95 (.agg PC) (.int .i64 0)).run Try.prog w = .ok v w := by
  obtain ⟨i0, hi, hz0, hz1, hz2⟩ := info_parts infoPN
  have hu : Try.prog.underlying 91 = some (.pointer 99) := by kernel_rfl
  simp [Instr.index, asIntOf, run_underlying Try.underlying95, run_underlying hu, Result.andThen, sizeOf, typeInfo, hi, part, isAgg, hz]
set_option maxRecDepth 20000 in
set_option maxHeartbeats 2000000 in
theorem ceil_c (b hb hs : Nat) (ns : List N2) (k : Int) (w : World) (H : SkL w b hb hs ns) :
    Calls Try.prog 55 #[.pointer (some ⟨b, 0, none⟩), (Value.int .i64) k] w fun e w' => e = .returned (ptrN (ceilN ltI ns k)) ∧ Fr No w w' := by
  have HL := Lib.hid H
  have HC := Lib.hid (below_c b hb hs ns k w H)
  clear H
  go_enter Try.func55, Try.ntmps55
  go_wp2_with fail
  refine HC.out.mono ?_
  rintro e w1 ⟨pt, hpt, rfl, f1⟩
  have HF1 := Lib.hid f1
  obtain ⟨n0, q0, q1, _, q3, _⟩ := (HL.out.keep f1 (fun _ _ h => h)).place (pt 0) 0 (by omega) (hpt 0 (by omega)).places
  have q4 : 0 < n0 := q1
  have HE : Hid (nxt ltI ns 0 ((pt 0).map (·.k)) = ceilN ltI ns k) := Lib.hid ((hpt 0 (by omega)).ceil ordI HL.out.srt (fun x hx => (HL.out.hts x hx).1))
  rw [HE.out] at q3
  obtain ⟨PC, hPC⟩ : ∃ PC, pathC hb pt 0 = PC := ⟨_, rfl⟩
  have hz : PC[0]? = some (.pointer (some ⟨spotN hb (pt 0), 0, none⟩)) := by rw [← hPC, pathC_zero]; simp
  have hsz : PC.size = 12 := by rw [← hPC]; simp [pathC]
  obtain ⟨vj, hvj⟩ := ptr_letter (ceilN ltI ns k)
  rw [hvj] at q3
  have HVJ := Lib.hid hvj
  have hix := index0 w1 PC _ hz
  rw [hPC]
  clear hpt hPC q1 f1 HE hvj
  go_wp2_with fail
  go_ret
  exact ⟨by rw [HVJ.out]; rfl, HF1.out⟩
theorem sizeT : ∃ j, Try.prog.info? 99 = some j ∧ j.size ≠ 0 := by
  have h : (Try.prog.info? 99).map (·.size) = some 3 := by kernel_rfl
  cases e : Try.prog.info? 99 with
  | none => rw [e] at h; cases h
  | some j =>
    rw [e] at h
    exact ⟨j, rfl, by have : j.size = 3 := by simpa using h
                      omega⟩
theorem undP : Try.prog.underlying 91 = some (.pointer 99) := by kernel_rfl
set_option maxRecDepth 20000 in
set_option maxHeartbeats 2000000 in
theorem tell_c {w : World} {b hb hs : Nat} {ns : List N2} (H : SkL w b hb hs ns) (o : Option N2) (ho : ∀ y, o = some y → y ∈ ns) (u : Option Addr) (hu : ptrN o = .pointer u ∨ (o = none ∧ u = some ⟨hb, 0, none⟩)) :
    Calls Try.prog 54 #[.pointer (some ⟨b, 0, none⟩), .pointer u] w fun e w' => e = .returned (tellV o) ∧ Fr No w w' := by
  have c0 := H.lst.cell 0
  simp at c0
  cases o with
  | none =>
    rcases hu with hu | ⟨_, rfl⟩
    · obtain rfl : none = u := by injection hu
      clear H ho hu
      go_enter Try.func54, Try.ntmps54
      go_wp2_with fail
      go_ret3
      exact ⟨rfl, Fr.refl _ _⟩
    · obtain ⟨j, hj, hjs⟩ := sizeT
      have heq := run_eql_ptr_same (P := Try.prog) w ⟨hb, 0, none⟩ undP hj
      clear H ho hj hjs
      go_enter Try.func54, Try.ntmps54
      go_wp2_with fail
      go_ret3
      exact ⟨rfl, Fr.refl _ _⟩
  | some y =>
    have hu : ptrN (some y) = .pointer u := hu.elim (fun h => h) fun h => by cases h.1
    obtain rfl : some ⟨y.b, 0, none⟩ = u := by injection hu
    have q4 := (H.nod y (ho y rfl)).1.cell 0
    have q5 := (H.nod y (ho y rfl)).1.cell 1
    simp at q4 q5
    obtain ⟨j, hj, hjs⟩ := sizeT
    have heq := run_eql_ptr_other (P := Try.prog) w (a := ⟨y.b, 0, none⟩) (b := ⟨hb, 0, none⟩) undP hj hjs (fun e => (H.apart y (ho y rfl)).1 (by injection e)) (H.nod y (ho y rfl)).1 H.head
    clear H ho hu hj hjs
    go_enter Try.func54, Try.ntmps54
    go_wp2_with fail
    go_region
    go_wp2_with fail
    go_ret3
    exact ⟨rfl, (Fr.refl _ w).drew⟩
set_option maxRecDepth 20000 in
set_option maxHeartbeats 2000000 in
theorem prev_c (b hb hs : Nat) (ns : List N2) (k : Int) (w : World) (H : SkL w b hb hs ns) :
    Calls Try.prog 40 #[.pointer (some ⟨b, 0, none⟩), (Value.int .i64) k] w fun e w' => e = .returned (tellV (prevN ltI ns k)) ∧ Fr No w w' := by
  have HL := Lib.hid H
  have HC := Lib.hid (below_c b hb hs ns k w H)
  clear H
  go_enter Try.func40, Try.ntmps40
  go_wp2_with fail
  refine HC.out.mono ?_
  rintro e w1 ⟨pt, hpt, rfl, f1⟩
  have HF1 := Lib.hid f1
  have HL1 := Lib.hid (HL.out.keep f1 (fun _ _ h => h))
  have HPR : Hid (pt 0 = prevN ltI ns k) := Lib.hid ((hpt 0 (by omega)).prev ordI HL.out.srt (fun x hx => (HL.out.hts x hx).1))
  have HPM := Lib.hid (hpt 0 (by omega)).places
  obtain ⟨PC, hPC⟩ : ∃ PC, pathC hb pt 0 = PC := ⟨_, rfl⟩
  have hz : PC[0]? = some (.pointer (some ⟨spotN hb (pt 0), 0, none⟩)) := by rw [← hPC, pathC_zero]; simp
  have hsz : PC.size = 12 := by rw [← hPC]; simp [pathC]
  have hix := index0 w1 PC _ hz
  rw [hPC]
  obtain ⟨p0, hp0⟩ : ∃ p, pt 0 = p := ⟨_, rfl⟩
  rw [hp0] at HPR HPM hix
  clear hpt hPC f1 hz
  obtain ⟨b0, hb0⟩ : ∃ s, spotN hb p0 = s := ⟨_, rfl⟩
  rw [hb0] at hix
  have HT := Lib.hid (tell_c HL1.out p0 (fun z hz => (HPM.out z hz).1) (some ⟨b0, 0, none⟩) (by
    rw [← hb0]
    cases p0 with
    | none => exact .inr ⟨rfl, rfl⟩
    | some z => exact .inl rfl))
  clear hb0 hp0
  go_wp2_with fail
  refine HT.out.mono ?_
  rintro e w3 ⟨rfl, f2⟩
  have HF2 := Lib.hid (HF1.out.trans f2)
  clear f2 hix
  cases p0 with
  | none =>
    rw [show tellV (none : Option N2) = .tuple #[(Value.int .i64 0), (Value.bool false), .bool false] from rfl]
    go_wp2_with fail
    go_ret3
    exact ⟨by rw [← HPR.out]; rfl, HF2.out⟩
  | some z =>
    rw [show tellV (some z) = .tuple #[(Value.int .i64) z.k, Value.bool z.v, .bool true] from rfl]
    go_wp2_with fail
    go_ret3
    exact ⟨by rw [← HPR.out]; rfl, HF2.out⟩
set_option maxRecDepth 20000 in
set_option maxHeartbeats 2000000 in
theorem first_c (b hb hs : Nat) (ns : List N2) (w : World) (H : SkL w b hb hs ns) :
    Calls Try.prog 37 #[.pointer (some ⟨b, 0, none⟩)] w fun e w' => e = .returned (tellV ns.head?) ∧ Fr No w w' := by
  have c0 := H.lst.cell 0
  simp at c0
  obtain ⟨n0, q0, q1, _, q3, _⟩ := H.place none 0 (by omega) (fun x hx => by cases hx)
  have q4 : 0 < n0 := q1
  rw [show (Option.map (fun x : N2 => x.k) none) = none from rfl, nxt_first (fun x hx => (H.hts x hx).1)] at q3
  rw [show spotN hb (none : Option N2) = hb from rfl] at q0
  rw [show slotN hs (none : Option N2) = hs from rfl] at q0 q3
  obtain ⟨o0, ho0⟩ : ∃ o, ns.head? = o := ⟨_, rfl⟩
  obtain ⟨u0, hu0⟩ := ptr_letter o0
  rw [ho0, hu0] at q3
  rw [ho0]
  have HT := Lib.hid (tell_c H o0 (fun y hy => List.mem_of_mem_head? (ho0.trans hy)) u0 (.inl hu0))
  clear H ho0 hu0 q1
  go_enter Try.func37, Try.ntmps37
  go_wp2_with fail
  refine HT.out.mono ?_
  rintro e w3 ⟨rfl, f2⟩
  have HF2 := Lib.hid f2
  clear f2 q0 q3 c0
  cases o0 with
  | none =>
    rw [show tellV (none : Option N2) = .tuple #[(Value.int .i64 0), (Value.bool false), .bool false] from rfl]
    go_wp2_with fail
    go_ret3
    exact ⟨rfl, HF2.out⟩
  | some z =>
    rw [show tellV (some z) = .tuple #[(Value.int .i64) z.k, Value.bool z.v, .bool true] from rfl]
    go_wp2_with fail
    go_ret3
    exact ⟨rfl, HF2.out⟩
set_option maxRecDepth 20000 in
set_option maxHeartbeats 2000000 in
theorem next_c (b hb hs : Nat) (ns : List N2) (k : Int) (w : World) (H : SkL w b hb hs ns) :
    Calls Try.prog 38 #[.pointer (some ⟨b, 0, none⟩), (Value.int .i64) k] w fun e w' => e = .returned (tellV (nextN ltI ns k)) ∧ Fr No w w' := by
  have HL := Lib.hid H
  have HC := Lib.hid (ceil_c b hb hs ns k w H)
  clear H
  go_enter Try.func38, Try.ntmps38
  go_wp2_with fail
  refine HC.out.mono ?_
  rintro e w1 ⟨rfl, f1⟩
  have HF1 := Lib.hid f1
  have HL1 := Lib.hid (HL.out.keep f1 (fun _ _ h => h))
  obtain ⟨o0, ho0⟩ : ∃ o, ceilN ltI ns k = o := ⟨_, rfl⟩
  obtain ⟨u0, hu0⟩ := ptr_letter o0
  rw [ho0, hu0]
  have hm : ∀ y, o0 = some y → y ∈ ns := fun y hy => List.mem_of_find?_eq_some (ho0.trans hy)
  have HM := Lib.hid hm
  have HO0 := Lib.hid ho0
  have HU0 := Lib.hid hu0
  have HH := Lib.hid (has_c HL1.out o0 hm k u0 hu0)
  clear f1 ho0 hu0 hm
  go_wp2_with fail
  refine HH.out.mono ?_
  rintro e w2 ⟨rfl, rfl⟩
  cases hN : hasN o0 k with
  | true =>
    obtain ⟨y, rfl, rfl⟩ := hasN_some hN
    have hy := HM.out y rfl
    have hu1 := HU0.out
    obtain rfl : some ⟨y.b, 0, none⟩ = u0 := by injection hu1
    obtain ⟨n0, q0, q1, _, q3, _⟩ := HL1.out.place (some y) 0 (by omega) (fun x hx => by cases hx; exact ⟨hy, (HL1.out.hts y hy).1⟩)
    have q4 : 0 < n0 := q1
    rw [show (Option.map (fun x : N2 => x.k) (some y)) = some y.k from rfl, nxt_zero (fun x hx => (HL1.out.hts x hx).1)] at q3
    rw [show spotN hb (some y) = y.b from rfl] at q0
    rw [show slotN hs (some y) = y.s from rfl] at q0 q3
    obtain ⟨o1, ho1⟩ : ∃ o, nextN ltI ns y.k = o := ⟨_, rfl⟩
    obtain ⟨u1, hu1'⟩ := ptr_letter o1
    rw [ho1, hu1'] at q3
    have HO1 := Lib.hid ho1
    have HT := Lib.hid (tell_c HL1.out o1 (fun z hz => List.mem_of_find?_eq_some (ho1.trans hz)) u1 (.inl hu1'))
    clear hN hy hu1 ho1 hu1' q1
    go_wp2_with fail
    refine HT.out.mono ?_
    rintro e w3 ⟨rfl, f2⟩
    have HF2 := Lib.hid (HF1.out.trans f2)
    clear f2 q0 q3
    cases o1 with
    | none =>
      rw [show tellV (none : Option N2) = .tuple #[(Value.int .i64 0), (Value.bool false), .bool false] from rfl]
      go_wp2_with fail
      go_ret3
      exact ⟨by rw [HO1.out]; rfl, HF2.out⟩
    | some z =>
      rw [show tellV (some z) = .tuple #[(Value.int .i64) z.k, Value.bool z.v, .bool true] from rfl]
      go_wp2_with fail
      go_ret3
      exact ⟨by rw [HO1.out]; rfl, HF2.out⟩
  | false =>
    have HG := Lib.hid ((next_absent ordI (absent_of HL1.out.srt HO0.out hN)).trans HO0.out)
    have HT := Lib.hid (tell_c HL1.out o0 HM.out u0 (.inl HU0.out))
    clear hN
    go_wp2_with fail
    refine HT.out.mono ?_
    rintro e w3 ⟨rfl, f2⟩
    have HF2 := Lib.hid (HF1.out.trans f2)
    clear f2
    cases o0 with
    | none =>
      rw [show tellV (none : Option N2) = .tuple #[(Value.int .i64 0), (Value.bool false), .bool false] from rfl]
      go_wp2_with fail
      go_ret3
      exact ⟨by rw [HG.out]; rfl, HF2.out⟩
    | some z =>
      rw [show tellV (some z) = .tuple #[(Value.int .i64) z.k, Value.bool z.v, .bool true] from rfl]
      go_wp2_with fail
      go_ret3
      exact ⟨by rw [HG.out]; rfl, HF2.out⟩
set_option maxRecDepth 20000 in
set_option maxHeartbeats 2000000 in
theorem len_c {w : World} {b hb hs : Nat} {ns : List N2} (H : SkL w b hb hs ns) :
    Calls Try.prog 41 #[.pointer (some ⟨b, 0, none⟩)] w fun e w' => e = .returned (.int .i64 (ns.length : Int)) ∧ w = w' := by
  have c0 := H.lst.cell 1
  simp at c0
  clear H
  go_enter Try.func41, Try.ntmps41
  go_wp2_with fail
  go_ret
  exact ⟨rfl, rfl⟩
end Go.Proofs.Ytdnaebbfbkdjoaa.KB
