/-
  Contracts of package sum's functions and of the document's answers for them, over this seat's translation: each returns what the plain functions of Crc say, and leaves memory as it was.
-/
import Derived.Test.YtcekgalppbfnhaaDoorFrame
import Derived.Test.YtcekgalppbfnhaaDoorCrc
import Derived.WalkKit
import Derived.Handy
import Derived.Lib.Hide
import Derived.Lib.LaidTab
namespace Go.Proofs.YtcekgalppbfnhaaDoor
set_option linter.unusedVariables false
open Go.RowKit

/-- The table's cells. -/
def Tab (w : World) : Prop := ∀ i, i < 16 → w.cell? ⟨0, i, none⟩ = some (.int .u32 ((Crc.nibAt i : Nat) : Int))

theorem take_snoc (l : List UInt8) (k : Nat) (x : UInt8) (h : k < l.length) (hx : l.getD k 0 = x) : l.take (k + 1) = l.take k ++ [x] := by
  rw [List.take_succ_eq_append_getElem h]
  have : l.getD k 0 = l[k] := by simp [h]
  rw [← hx, this]

/-! How the walk spells the steps on 32 bits. -/
theorem bv_lt (c : BitVec 32) : (c.toNat : Int) < 4294967296 := by
  have := c.isLt
  omega
theorem bv_ofInt (c : BitVec 32) : BitVec.ofInt 32 (c.toNat : Int) = c := by
  rw [BitVec.ofInt_natCast, BitVec.ofNat_toNat, BitVec.setWidth_eq]
theorem wrap_bv (c : BitVec 32) : IntKind.u32.wrap (c.toNat : Int) = (c.toNat : Int) := IntWalk.u32_in _ (by have := bv_lt c; omega)
theorem xor_bv (a b : BitVec 32) : bits .xor .u32 (a.toNat : Int) (b.toNat : Int) = ((a ^^^ b).toNat : Int) := by
  show IntKind.u32.wrap ((BitVec.ofInt 32 (a.toNat : Int) ^^^ BitVec.ofInt 32 (b.toNat : Int)).toNat : Int) = _
  rw [bv_ofInt, bv_ofInt]
  exact wrap_bv _
theorem not_bv (a : BitVec 32) : bits .xor .u32 IntKind.u32.max (a.toNat : Int) = ((~~~a).toNat : Int) := by
  have e : IntKind.u32.max = ((BitVec.allOnes 32).toNat : Int) := by decide +kernel
  rw [e, xor_bv, BitVec.allOnes_xor]
theorem xor_byte (a : BitVec 32) (x : UInt8) : bits .xor .u32 (a.toNat : Int) (x.toNat : Int) = ((a ^^^ BitVec.ofNat 32 x.toNat).toNat : Int) := by
  have hx := x.toNat_lt
  have e : (x.toNat : Int) = ((BitVec.ofNat 32 x.toNat).toNat : Int) := by
    rw [BitVec.toNat_ofNat, Nat.mod_eq_of_lt (by omega)]
  rw [e, xor_bv]
theorem and15 (a : BitVec 32) : bits .and .u32 (a.toNat : Int) 15 = ((a.toNat % 16 : Nat) : Int) := by
  show IntKind.u32.wrap ((BitVec.ofInt 32 (a.toNat : Int) &&& BitVec.ofInt 32 15).toNat : Int) = _
  have e : BitVec.ofInt 32 15 = 15#32 := by decide
  rw [bv_ofInt, e, BitVec.toNat_and]
  have e2 : a.toNat &&& (15#32).toNat = a.toNat % 16 := Nat.and_two_pow_sub_one_eq_mod a.toNat 4
  rw [e2]
  exact IntWalk.u32_in _ (by omega)
theorem four_bv (a : BitVec 32) : bits .xor .u32 ((a.toNat : Int) / (16 : Int)) ((Crc.nibAt (a.toNat % 16) : Nat) : Int) = ((Crc.four a).toNat : Int) := by
  have h1 : ((a.toNat : Int) / (16 : Int)) = ((a >>> 4).toNat : Int) := by
    have e : (a >>> 4).toNat = a.toNat / 16 := by rw [BitVec.toNat_ushiftRight, Nat.shiftRight_eq_div_pow]
    rw [e]
    omega
  have h2 : ((Crc.nibAt (a.toNat % 16) : Nat) : Int) = ((BitVec.ofNat 32 (Crc.nibAt (a.toNat % 16))).toNat : Int) := by
    rw [BitVec.toNat_ofNat, Nat.mod_eq_of_lt (Crc.nibAt_lt _ (by omega))]
  rw [h1, h2, xor_bv, Crc.four_tab]
  rfl

set_option maxHeartbeats 400000 in
theorem more_c (c : BitVec 32) (a : Option Addr) (len cap : Nat) (l : List UInt8) (w : World) (hl : l.length = len) (hm : len ≤ 140737488351232) (hr : Rd w a l) (ht : Tab w) :
    Calls Tryd.prog 75 #[.int .u32 (c.toNat : Int), .slice a len cap] w fun e w' => e = .returned (.int .u32 ((Crc.more c l).toNat : Int)) ∧ w = w' := by
  have hc := c.isLt
  have H := Lib.hid hl
  clear hl
  obtain ⟨d, hd⟩ : ∃ d, d = ~~~c := ⟨_, rfl⟩
  have n1 := not_bv c
  rw [← hd] at n1
  have Hd := Lib.hid hd
  clear hd
  go_enter Tryd.func75, Tryd.ntmps75
  go_wp2_with fail
  clear n1
  go_loop [0, 11] (fun t i => ∃ (k : Nat) (s : BitVec 32), k ≤ len ∧ i = .int .i64 k ∧ t = .int .u32 (s.toNat : Int) ∧ s = Crc.run d (l.take k)) (fun _ i => len - (intOf i).toNat)
  case atStart => exact ⟨0, _, Nat.zero_le _, rfl, rfl, rfl⟩
  case round =>
    obtain ⟨k, s, hk, rfl, rfl, hs⟩ := hrel
    have Hs := Lib.hid hs
    clear hs
    by_cases hlt : k < len
    · obtain ⟨b, o, rfl, hcell⟩ := hr (by have := H.out; omega)
      have hx := hcell k (by have := H.out; omega)
      clear hcell hr
      have hxl := (l.getD k 0).toNat_lt
      generalize hgx : l.getD k 0 = x at hx hxl
      have Hx := Lib.hid hgx
      clear hgx
      obtain ⟨t, et⟩ : ∃ t, t = s ^^^ BitVec.ofNat 32 x.toNat := ⟨_, rfl⟩
      obtain ⟨u, eu⟩ : ∃ u, u = Crc.four t := ⟨_, rfl⟩
      obtain ⟨v, ev⟩ : ∃ v, v = Crc.four u := ⟨_, rfl⟩
      have e1 := xor_byte s x
      rw [← et] at e1
      have e2 := and15 t
      have e3 := four_bv t
      rw [← eu] at e3
      have e4 := and15 u
      have e5 := four_bv u
      rw [← ev] at e5
      have c1 := ht (t.toNat % 16) (by omega)
      have c2 := ht (u.toNat % 16) (by omega)
      have Het := Lib.hid et
      have Heu := Lib.hid eu
      have Hev := Lib.hid ev
      have htl := t.isLt
      have hul := u.isLt
      have b1 : t.toNat % 16 < 16 := by omega
      have b2 : u.toNat % 16 < 16 := by omega
      clear et eu ev ht
      go_wp2_with fail
      go_round
      case rel =>
        refine ⟨k + 1, v, by omega, by go_num, rfl, ?_⟩
        have e : l.take (k + 1) = l.take k ++ [x] := take_snoc l k x (by have := H.out; omega) Hx.out
        rw [e, Crc.run_snoc, ← Hs.out, Hev.out, Heu.out, Het.out]
        rfl
      case measure => simp [intOf]; omega
    · have hk' : k = len := by omega
      have Hk := Lib.hid hk'
      clear hk'
      obtain ⟨r, er⟩ : ∃ r, r = ~~~s := ⟨_, rfl⟩
      have n2 := not_bv s
      rw [← er] at n2
      have Her := Lib.hid er
      clear er
      go_wp2_with fail
      go_ret
      refine ⟨?_, rfl⟩
      have e : r = Crc.more c l := by
        have h1 : l.take k = l := List.take_of_length_le (by have := H.out; have := Hk.out; omega)
        rw [Her.out, Hs.out, h1, Hd.out]
        rfl
      rw [e]
      rfl

set_option maxHeartbeats 400000 in
theorem of_c (a : Option Addr) (len cap : Nat) (l : List UInt8) (w : World) (hl : l.length = len) (hm : len ≤ 140737488351232) (hr : Rd w a l) (ht : Tab w) :
    Calls Tryd.prog 58 #[.slice a len cap] w fun e w' => e = .returned (.int .u32 ((Crc.of l).toNat : Int)) ∧ w = w' := by
  have H := Lib.hid (more_c 0#32 a len cap l w hl hm hr ht)
  clear hl hr ht
  go_enter Tryd.func58, Tryd.ntmps58
  go_wp2_with fail
  refine (show Calls _ _ _ _ _ from H.out).mono ?_
  rintro e w' ⟨rfl, rfl⟩
  go_wp2_with fail
  go_ret
  exact ⟨rfl, rfl⟩

theorem quo2 (s : BitVec 32) : ((s.toNat : Int) / (2 : Int)) = ((s >>> 1).toNat : Int) := by
  have e : (s >>> 1).toNat = s.toNat / 2 := by rw [BitVec.toNat_ushiftRight, Nat.shiftRight_eq_div_pow]
  rw [e]
  omega
theorem odd_bv (s : BitVec 32) (h : s.toNat % 2 = 1) : bits .xor .u32 ((s.toNat : Int) / (2 : Int)) 2197175160 = ((Crc.one s).toNat : Int) := by
  rw [quo2, Crc.one_odd s h, show (2197175160 : Int) = ((Crc.poly).toNat : Int) by decide +kernel, xor_bv]
theorem even_bv (s : BitVec 32) (h : s.toNat % 2 = 0) : ((s.toNat : Int) / (2 : Int)) = ((Crc.one s).toNat : Int) := by
  rw [quo2, Crc.one_even_nat s h]

set_option maxHeartbeats 400000 in
theorem run_c (c : BitVec 32) (a : Option Addr) (len cap : Nat) (l : List UInt8) (w : World) (hl : l.length = len) (hm : len ≤ 140737488351232) (hr : Rd w a l) :
    Calls Tryd.prog 67 #[.int .u32 (c.toNat : Int), .slice a len cap] w fun e w' => e = .returned (.int .u32 ((Crc.run c l).toNat : Int)) ∧ w = w' := by
  have H := Lib.hid hl
  clear hl
  go_enter Tryd.func67, Tryd.ntmps67
  go_wp2_with fail
  go_loop [0, 5] (fun t i => ∃ (k : Nat) (s : BitVec 32), k ≤ len ∧ i = .int .i64 k ∧ t = .int .u32 (s.toNat : Int) ∧ s = Crc.run c (l.take k)) (fun _ i => len - (intOf i).toNat)
  case atStart => exact ⟨0, _, Nat.zero_le _, rfl, rfl, rfl⟩
  case round =>
    obtain ⟨k, s, hk, rfl, rfl, hs⟩ := hrel
    have Hs := Lib.hid hs
    clear hs
    by_cases hlt : k < len
    · obtain ⟨b, o, rfl, hcell⟩ := hr (by have := H.out; omega)
      have hx := hcell k (by have := H.out; omega)
      clear hcell hr
      have hxl := (l.getD k 0).toNat_lt
      generalize hgx : l.getD k 0 = x at hx hxl
      have Hx := Lib.hid hgx
      clear hgx
      obtain ⟨t, et⟩ : ∃ t, t = s ^^^ BitVec.ofNat 32 x.toNat := ⟨_, rfl⟩
      have e1 := xor_byte s x
      rw [← et] at e1
      have Het := Lib.hid et
      clear et
      go_wp2_with fail
      clear e1
      go_loop [0, 6] (fun u j => ∃ (n : Nat) (r : BitVec 32), n ≤ 8 ∧ j = .int .i64 n ∧ u = .int .u32 (r.toNat : Int) ∧ r = Crc.ones n t) (fun _ j => 8 - (intOf j).toNat)
      case atStart => exact ⟨0, _, Nat.zero_le _, rfl, rfl, rfl⟩
      case round =>
        obtain ⟨n, r, hn, rfl, rfl, hrr⟩ := hrel
        have Hr := Lib.hid hrr
        clear hrr
        have hrl := r.isLt
        by_cases hn8 : n < 8
        · obtain ⟨v, ev⟩ : ∃ v, v = Crc.one r := ⟨_, rfl⟩
          by_cases ho : r.toNat % 2 = 1
          · have o1 := odd_bv r ho
            rw [← ev] at o1
            have Hev := Lib.hid ev
            clear ev
            go_wp2_with fail
            go_round
            case rel => exact ⟨n + 1, v, by omega, by go_num, rfl, by rw [Hev.out, Hr.out]; rfl⟩
            case measure => simp [intOf]; omega
          · have ho : r.toNat % 2 = 0 := by omega
            have o1 := even_bv r ho
            rw [← ev] at o1
            have Hev := Lib.hid ev
            clear ev
            go_wp2_with fail
            go_round
            case rel => exact ⟨n + 1, v, by omega, by go_num, rfl, by rw [Hev.out, Hr.out]; rfl⟩
            case measure => simp [intOf]; omega
        · have hn' : n = 8 := by omega
          have Hn := Lib.hid hn'
          clear hn'
          go_wp2_with fail
          go_round
          case rel =>
            refine ⟨k + 1, r, by omega, by go_num, rfl, ?_⟩
            have e : l.take (k + 1) = l.take k ++ [x] := take_snoc l k x (by have := H.out; omega) Hx.out
            rw [e, Crc.run_snoc, ← Hs.out, Hr.out, Hn.out, Het.out]
            rfl
          case measure => simp [intOf]; omega
    · have hk' : k = len := by omega
      have Hk := Lib.hid hk'
      clear hk'
      go_wp2_with fail
      go_ret
      refine ⟨?_, rfl⟩
      have e : s = Crc.run c l := by
        have h1 : l.take k = l := List.take_of_length_le (by have := H.out; have := Hk.out; omega)
        rw [Hs.out, h1]
      rw [e]
      rfl
set_option maxHeartbeats 400000 in
theorem refof_c (a : Option Addr) (len cap : Nat) (l : List UInt8) (w : World) (hl : l.length = len) (hm : len ≤ 140737488351232) (hr : Rd w a l) :
    Calls Tryd.prog 38 #[.slice a len cap] w fun e w' => e = .returned (.int .u32 ((Crc.of l).toNat : Int)) ∧ w = w' := by
  have H := Lib.hid (run_c (~~~0#32) a len cap l w hl hm hr)
  clear hl hr
  obtain ⟨t, et⟩ : ∃ t, t = Crc.run (~~~0#32) l := ⟨_, rfl⟩
  obtain ⟨v, ev⟩ : ∃ v, v = ~~~t := ⟨_, rfl⟩
  have e1 : bits .xor .u32 (t.toNat : Int) 4294967295 = (v.toNat : Int) := by
    rw [show (4294967295 : Int) = ((BitVec.allOnes 32).toNat : Int) by decide +kernel, xor_bv, BitVec.xor_allOnes, ev]
  have Hev := Lib.hid ev
  have Het := Lib.hid et
  rw [← et] at H
  clear ev et
  go_enter Tryd.func38, Tryd.ntmps38
  go_wp2_with fail
  refine (show Calls _ _ _ _ _ from H.out).mono ?_
  rintro e w' ⟨rfl, rfl⟩
  go_wp2_with fail
  go_ret
  refine ⟨?_, rfl⟩
  have e : v = Crc.of l := by
    rw [Hev.out, Het.out]
    rfl
  rw [e]
  rfl
end Go.Proofs.YtcekgalppbfnhaaDoor
