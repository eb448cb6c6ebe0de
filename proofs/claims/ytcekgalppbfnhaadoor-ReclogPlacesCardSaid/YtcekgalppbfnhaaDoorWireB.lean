/-
  Contracts of layer 2's plain functions, gone on: the document's Read.
-/
import Derived.Test.YtcekgalppbfnhaaDoorWireA
namespace Go.Proofs.YtcekgalppbfnhaaDoor
set_option linter.unusedVariables false
open Go.RowKit

/-- The document's Read. -/
def fin_ (at_ : Nat) (p : Int × Int) : Int × Int := if p.2 = -1 then (0, -1) else (p.1, (at_ : Int) + p.2)
def readI (at_ : Nat) (l : List UInt8) : Int × Int := fin_ at_ (decI (l.drop at_))
theorem retII_fin {n k : Int} {at_ : Nat} {p : Int × Int} {e : Ending} (he : e = .returned (.tuple #[.int .i64 n, .int .i64 k])) (h : fin_ at_ p = (n, k)) : e = retII (fin_ at_ p) := by rw [he, h]; rfl
theorem fin_mk (at_ k j x r : Nat) (hj : j = at_ + k) (h : x = r) : fin_ at_ ((x : Int), (k : Int) + 1) = ((r : Int), (j : Int) + 1) := by
  subst hj h
  unfold fin_
  rw [if_neg (by simp only; omega)]
  simp only [Prod.mk.injEq, true_and]
  omega
theorem getD_drop (l : List UInt8) (a k : Nat) : (l.drop a).getD k 0 = l.getD (a + k) 0 := by simp [List.getD, List.getElem?_drop]

set_option maxRecDepth 20000 in
set_option maxHeartbeats 800000 in
theorem read_c (a : Option Addr) (len cap at_ : Nat) (l : List UInt8) (w : World) (hl : l.length = len) (hm : len ≤ 1000000) (hat : at_ ≤ len) (hr : Rd w a l) :
    Calls Tryd.prog 40 #[.slice a len cap, .int .i64 (at_ : Int)] w fun e w' => e = retII (readI at_ l) ∧ w = w' := by
  unfold readI
  have H := Lib.hid hl
  have Hl1 : Hid ((l.drop at_).length = len - at_) := Lib.hid (by rw [List.length_drop, hl])
  clear hl
  go_enter Tryd.func40, Tryd.ntmps40
  go_wp2_with fail
  go_loop [6, 7, 8] (fun n y i => ∃ (k q : Nat), k ≤ 9 ∧ i = .int .i64 k ∧ n = .int .i64 q ∧ y = .int .i64 (if k = 9 then 128 ^ 8 else 128 ^ k : Nat) ∧ q < 128 ^ k ∧ decI (l.drop at_) = comb k q (dec (9 - k) k ((l.drop at_).drop k))) (fun _ _ i => 9 - (intOf i).toNat)
  case atStart =>
    refine ⟨0, 0, Nat.zero_le _, rfl, rfl, rfl, by decide, ?_⟩
    unfold decI comb
    rw [List.drop_zero, Nat.sub_zero]
    cases dec 9 0 (l.drop at_) with
    | none => rfl
    | some p => simp
  case round =>
    obtain ⟨k, q, hk, rfl, rfl, rfl, hq, hd⟩ := hrel
    have Hq := Lib.hid hq
    have Hd := Lib.hid hd
    clear hd
    by_cases hk9 : k < 9
    · by_cases hlt : at_ + k < len
      · obtain ⟨b, o, rfl, hcell⟩ := hr (by have := H.out; omega)
        have hx := hcell (at_ + k) (by have := H.out; omega)
        clear hcell hr
        have hdr := drop_at (l.drop at_) k (by have := Hl1.out; omega)
        rw [getD_drop] at hdr
        have Hdr := Lib.hid hdr
        clear hdr
        obtain ⟨j, hj⟩ : ∃ j, j = at_ + k := ⟨_, rfl⟩
        rw [← hj] at hx Hdr hlt
        have ej : (at_ : Int) + (k : Int) = (j : Int) := by omega
        have Hj := Lib.hid hj
        clear hj
        generalize hgc : l.getD j 0 = c at hx Hdr
        have Hc := Lib.hid hgc
        clear hgc
        have hxl := c.toNat_lt
        have p9 := pow_le9 (k + 1) (by omega)
        have pk := pow_le9 k (by omega)
        have nl := next_lt q (c.toNat % 128) k hq (by omega)
        have e2 : ((c.toNat % 128 : Nat) : Int) * ((128 ^ k : Nat) : Int) = ((c.toNat % 128 * 128 ^ k : Nat) : Int) := (Int.natCast_mul _ _).symm
        have Hn := Lib.hid nl
        have hif : (if k = 9 then 128 ^ 8 else 128 ^ k) = 128 ^ k := by rw [if_neg (by omega)]
        rw [hif]
        have e5 : (128 : Nat) ^ (k + 1) = 128 ^ k * 128 := by rw [Nat.pow_succ]
        have H5 := Lib.hid e5
        have hk1 : k < 8 → 128 ^ k * 128 ≤ 72057594037927936 := fun h => by rw [← e5]; exact Nat.le_trans (Nat.pow_le_pow_right (by decide) (show k + 1 ≤ 8 by omega)) (by decide)
        have hpk : 128 ^ k ≤ 72057594037927936 := Nat.le_trans (Nat.pow_le_pow_right (by decide) (show k ≤ 8 by omega)) (by decide)
        have HP : Hid (128 ^ k = 128 ^ k) := Lib.hid rfl
        clear e5 hif hq
        generalize hz : c.toNat % 128 * 128 ^ k = z at *
        have hr63 : q + z < 9223372036854775808 := by omega
        generalize hP : 128 ^ k = P at *
        have Hz := Lib.hid hz
        have HPk := Lib.hid hP
        generalize hrr : q + z = r at *
        have Hr := Lib.hid hrr
        have e6 : ((c.toNat : Int) % 128) * (P : Int) = (z : Int) := by rw [← hz]; rfl
        have e7 : (q : Int) + (z : Int) = (r : Int) := by omega
        clear hz hP hrr p9 nl e2 HP pk
        by_cases h128 : c.toNat < 128
        · have Hce := Lib.hid (comb_end k q c (l.drop at_) (by omega) h128 Hdr.out)
          have hmm : (c.toNat : Int) % 128 = (c.toNat : Int) := by omega
          have Hmm := Lib.hid hmm
          have Hcm : Hid (c.toNat % 128 = c.toNat) := Lib.hid (by omega)
          clear hmm hk1
          by_cases h0 : c.toNat = 0
          · have hb0 : ((c.toNat : Int) == 0) = true := by rw [h0]; rfl
            have H0 := Lib.hid h0
            clear h0
            by_cases hk0 : 0 < k
            · go_wp2_with fail
              go_ret2
              exact ⟨retII_fin rfl (by rw [Hd.out, Hce.out, if_pos ⟨H0.out, hk0⟩]; rfl), rfl⟩
            · go_wp2_with fail
              go_ret2
              exact ⟨retII_fin rfl (by rw [Hd.out, Hce.out, if_neg (fun h => hk0 h.2)]; exact fin_mk at_ k j _ r Hj.out (by rw [← Hr.out, ← Hz.out, Hcm.out, HPk.out])), rfl⟩
          · have hb0 : ((c.toNat : Int) == 0) = false := by rw [beq_eq_false_iff_ne]; omega
            have H0 := Lib.hid h0
            clear h0
            go_wp2_with fail
            go_ret2
            exact ⟨retII_fin rfl (by rw [Hd.out, Hce.out, if_neg (fun h => H0.out h.1)]; exact fin_mk at_ k j _ r Hj.out (by rw [← Hr.out, ← Hz.out, Hcm.out, HPk.out])), rfl⟩
        · by_cases hk8 : k < 8
          · have := hk1 hk8
            have e8 : (P : Int) * 128 = ((128 ^ (k + 1) : Nat) : Int) := by rw [H5.out]; rfl
            have H8 := Lib.hid e8
            clear e8
            go_wp2_with fail
            go_round
            case rel =>
              refine ⟨k + 1, r, by omega, by go_num, rfl, ?_, Hn.out, by rw [Hd.out, comb_more k q c _ (by omega) (by omega) Hdr.out, ← Hr.out, ← Hz.out, HPk.out]⟩
              rw [if_neg (by omega), ← H8.out]
            case measure => simp [intOf]; omega
          · have hk88 : k = 8 := by omega
            have H88 := Lib.hid hk88
            clear hk88 hk1
            go_wp2_with fail
            go_round
            case rel =>
              refine ⟨k + 1, r, by omega, by go_num, rfl, ?_, Hn.out, by rw [Hd.out, comb_more k q c _ (by omega) (by omega) Hdr.out, ← Hr.out, ← Hz.out, HPk.out]⟩
              rw [if_pos (by have := H88.out; omega), ← HPk.out, H88.out]
            case measure => simp [intOf]; omega
      · have e : comb k q (dec (9 - k) k ((l.drop at_).drop k)) = (-1, -1) := by
          rw [List.drop_eq_nil_of_le (by have := Hl1.out; omega), dec_nil]
          rfl
        have He := Lib.hid e
        clear e
        go_wp2_with fail
        go_ret2
        exact ⟨retII_fin rfl (by rw [Hd.out, He.out]; rfl), rfl⟩
    · have hk' : k = 9 := by omega
      subst hk'
      go_wp2_with fail
      go_ret2
      exact ⟨retII_fin rfl (by rw [Hd.out]; rfl), rfl⟩
end Go.Proofs.YtcekgalppbfnhaaDoor
