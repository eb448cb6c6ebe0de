/-
  Layer 5, lists of string,int: what a list tells: ceil, tell, Get, Height, Len, and the neighbours.
-/
import Derived.Test.YtdnaebbfbkdjoaaSkQS
import Derived.OwnWalk
import Derived.LaidEqlPtr
namespace Go.Proofs.Ytdnaebbfbkdjoaa.KS
set_option linter.unusedVariables false
open Go.RowKit

/-- What is told of a node. -/
def tellV (o : Option N2) : Value := match o with
  | none => .tuple #[(Value.string ⟨#[]⟩), (Value.int .i64 0), .bool false]
  | some y => .tuple #[Value.string y.k, (Value.int .i64) y.v, .bool true]
def getR (o : Option N2) : Value := match o with
  | none => .tuple #[(Value.int .i64 0), .bool false]
  | some y => .tuple #[(Value.int .i64) y.v, .bool true]
def heightR (o : Option N2) : Value := match o with
  | none => .int .i64 0
  | some y => .int .i64 (y.h : Int)
theorem ptr_letter (o : Option N2) : ∃ u, ptrN o = .pointer u := by
  cases o with
  | none => exact ⟨_, rfl⟩
  | some z => exact ⟨_, rfl⟩
theorem absent_of {ns : List N2} (hs : Sorted ltS ns) {k : ByteArray} {o : Option N2} (h : ceilN ltS ns k = o) (hN : hasN o k = false) : ∀ x ∈ ns, x.k ≠ k := by
  cases o with
  | none => exact ceil_none ordS h
  | some y => exact ceil_some ordS hs h (hasN_not hN y rfl)
theorem index0 (w : World) (PC : Array Value) (v : Value) (hz : PC[0]? = some v) : (Instr.index 82 (.agg PC) (.int .i64 0)).run Try.prog w = .ok v w := by
  obtain ⟨i0, hi, hz0, hz1, hz2⟩ := info_parts infoPN
  have hu : Try.prog.underlying 78 = some (.pointer 86) := by kernel_rfl
  simp [Instr.index, asIntOf, run_underlying Try.underlying82, run_underlying hu, Result.andThen, sizeOf, typeInfo, hi, part, isAgg, hz]
set_option maxRecDepth 20000 in
set_option maxHeartbeats 2000000 in
theorem ceil_c (b hb hs : Nat) (ns : List N2) (k : ByteArray) (w : World) (H : SkL w b hb hs ns) :
    Calls Try.prog 50 #[.pointer (some ⟨b, 0, none⟩), Value.string k] w fun e w' => e = .returned (ptrN (ceilN ltS ns k)) ∧ Fr No w w' := by
  have HL := Lib.hid H
  have HC := Lib.hid (below_c b hb hs ns k w H)
  clear H
  go_enter Try.func50, Try.ntmps50
  go_wp2_with fail
  refine HC.out.mono ?_
  rintro e w1 ⟨pt, hpt, rfl, f1⟩
  have HF1 := Lib.hid f1
  obtain ⟨n0, q0, q1, _, q3, _⟩ := (HL.out.keep f1 (fun _ _ h => h)).place (pt 0) 0 (by omega) (hpt 0 (by omega)).places
  have q4 : 0 < n0 := q1
  have HE : Hid (nxt ltS ns 0 ((pt 0).map (·.k)) = ceilN ltS ns k) := Lib.hid ((hpt 0 (by omega)).ceil ordS HL.out.srt (fun x hx => (HL.out.hts x hx).1))
  rw [HE.out] at q3
  obtain ⟨PC, hPC⟩ : ∃ PC, pathC hb pt 0 = PC := ⟨_, rfl⟩
  have hz : PC[0]? = some (.pointer (some ⟨spotN hb (pt 0), 0, none⟩)) := by rw [← hPC, pathC_zero]; simp
  have hsz : PC.size = 12 := by rw [← hPC]; simp [pathC]
  obtain ⟨vj, hvj⟩ := ptr_letter (ceilN ltS ns k)
  rw [hvj] at q3
  have HVJ := Lib.hid hvj
  have hix := index0 w1 PC _ hz
  rw [hPC]
  clear hpt hPC q1 f1 HE hvj
  go_wp2_with fail
  go_ret
  exact ⟨by rw [HVJ.out]; rfl, HF1.out⟩
set_option maxRecDepth 20000 in
set_option maxHeartbeats 2000000 in
theorem get_c (b hb hs : Nat) (ns : List N2) (k : ByteArray) (w : World) (H : SkL w b hb hs ns) :
    Calls Try.prog 31 #[.pointer (some ⟨b, 0, none⟩), Value.string k] w fun e w' => e = .returned (getR (getN ns k)) ∧ Fr No w w' := by
  have HL := Lib.hid H
  have HC := Lib.hid (ceil_c b hb hs ns k w H)
  clear H
  go_enter Try.func31, Try.ntmps31
  go_wp2_with fail
  refine HC.out.mono ?_
  rintro e w1 ⟨rfl, f1⟩
  have HF1 := Lib.hid f1
  have HL1 := Lib.hid (HL.out.keep f1 (fun _ _ h => h))
  obtain ⟨o0, ho0⟩ : ∃ o, ceilN ltS ns k = o := ⟨_, rfl⟩
  obtain ⟨u0, hu0⟩ := ptr_letter o0
  rw [ho0, hu0]
  have hm : ∀ y, o0 = some y → y ∈ ns := fun y hy => List.mem_of_find?_eq_some (ho0.trans hy)
  have HM := Lib.hid hm
  have HO0 := Lib.hid ho0
  have HU0 := Lib.hid hu0
  have HH := Lib.hid (has_c HL1.out o0 hm k u0 hu0)
  clear f1 ho0 hu0 hm
  go_wp2_with fail
  refine HH.out.mono ?_
  rintro e w2 ⟨rfl, rfl⟩
  cases hN : hasN o0 k with
  | true =>
    obtain ⟨y, rfl, rfl⟩ := hasN_some hN
    have hy := HM.out y rfl
    have hu1 := HU0.out
    obtain rfl : some ⟨y.b, 0, none⟩ = u0 := by injection hu1
    have q5 := (HL1.out.nod y hy).1.cell 1
    simp at q5
    have HG := Lib.hid (get_of_mem ordS HL1.out.srt hy)
    clear hN hy hu1
    go_wp2_with fail
    go_ret2
    exact ⟨by rw [HG.out]; rfl, HF1.out⟩
  | false =>
    have HG := Lib.hid (get_none (absent_of HL1.out.srt HO0.out hN))
    clear hN
    go_wp2_with fail
    go_ret2
    exact ⟨by rw [HG.out]; rfl, HF1.out⟩
set_option maxRecDepth 20000 in
set_option maxHeartbeats 2000000 in
theorem len_c {w : World} {b hb hs : Nat} {ns : List N2} (H : SkL w b hb hs ns) :
    Calls Try.prog 30 #[.pointer (some ⟨b, 0, none⟩)] w fun e w' => e = .returned (.int .i64 (ns.length : Int)) ∧ w = w' := by
  have c0 := H.lst.cell 1
  simp at c0
  clear H
  go_enter Try.func30, Try.ntmps30
  go_wp2_with fail
  go_ret
  exact ⟨rfl, rfl⟩
end Go.Proofs.Ytdnaebbfbkdjoaa.KS
