/-
  The walks of the statements on sums with their own bytes behind them, and on words.
-/
import Derived.Test.YtefkbedpnojibaaDoorSumB
namespace Go.Proofs.YtefkbedpnojibaaDoor
set_option linter.unusedVariables false
open Go.RowKit

theorem byte_nat (n : Nat) : ((UInt8.ofNat n).toNat : Int) = (n : Int) % 256 := by
  rw [UInt8.toNat_ofNat']
  omega

set_option maxHeartbeats 400000 in
theorem sumEnds_walk (w : World) (ht : Tab w) (a : Option Addr) (len cap : Nat) (l : List UInt8) (hl : l.length = len) (hc : len ≤ cap) (_hm : cap ≤ maxLen) (hr : Rd w a l) :
    Calls Tryd.prog 9 #[.slice a len cap] w fun e w' => e = .returned (.bool true) ∧ Below w.heap.size w w' := by
  have A := fun (w : World) (ht : Tab w) => awake_c w ht
  have HA := Lib.hid A
  clear A
  by_cases h1 : 5000 < len
  · clear hl hr
    have HT := Lib.hid ht
    clear ht
    go_enter Tryd.func9, Tryd.ntmps9
    go_wp2_with fail
    refine (HA.out _ HT.out).mono ?_
    rintro e w' ⟨rfl, hb⟩
    go_wp2_with fail
    go_ret
    exact ⟨rfl, hb⟩
  · have C1 := Lib.hid (of_c a len cap l w hl (by omega) hr ht)
    have HT := Lib.hid ht
    clear ht hl hr
    generalize Crc.of l = s at C1
    have hs := s.isLt
    have hbb := fun o => (Below.refl w.heap.size w).alloc (Nat.le_refl _) o
    have HB := Lib.hid hbb
    clear hbb
    go_enter Tryd.func9, Tryd.ntmps9
    go_wp2_with fail
    refine (show Calls _ _ _ _ _ from C1.out).mono ?_
    rintro e w' ⟨rfl, rfl⟩
    go_wp2_with fail
    have hw : #[Value.int .u8 ((s.toNat : Int) % 256), Value.int .u8 ((s.toNat : Int) / 256 % 256), Value.int .u8 ((s.toNat : Int) / 65536 % 256), Value.int .u8 ((s.toNat : Int) / 16777216)] =
        (([UInt8.ofNat s.toNat, UInt8.ofNat (s.toNat / 256), UInt8.ofNat (s.toNat / 65536), UInt8.ofNat (s.toNat / 16777216)] : List UInt8).map fun x => Value.int .u8 (x.toNat : Int)).toArray := by
      simp only [List.map_cons, List.map_nil, byte_nat]
      have e : (s.toNat : Int) / 16777216 = ((s.toNat / 16777216 : Nat) : Int) % 256 := by omega
      rw [e]
      simp
    refine (more_c s _ 4 4 _ _ rfl (by decide) (Rd.new _ hw) (HT.out.below (HB.out _) (Nat.le_refl _))).mono ?_
    rw [Crc.of_end]
    rintro e w' ⟨rfl, rfl⟩
    go_wp2_with fail
    refine (HA.out _ (HT.out.below (HB.out _) (Nat.le_refl _))).mono ?_
    rintro e w' ⟨rfl, hb⟩
    go_wp2_with fail
    go_ret
    exact ⟨rfl, (HB.out _).trans (hb.mono (by simp))⟩

def wd (x y z u : UInt8) : Nat := x.toNat * 16777216 + y.toNat * 65536 + z.toNat * 256 + u.toNat
theorem or_low (k x y : Nat) (hx : x * 2 ^ k < 4294967296) (hy : y < 2 ^ k) (hk : 2 ^ k ≤ 4294967296) : bits .or .u32 ((x * 2 ^ k : Nat) : Int) (y : Int) = ((x * 2 ^ k + y : Nat) : Int) := by
  rw [u32_or_nat _ _ hx (by omega), Nat.or_comm, or_add _ _ k hy, Nat.add_comm]
theorem or_word (x y z u : UInt8) :
    bits .or .u32 (bits .or .u32 (bits .or .u32 ((x.toNat : Int) * 16777216) ((y.toNat : Int) * 65536)) ((z.toNat : Int) * 256)) (u.toNat : Int) = ((wd x y z u : Nat) : Int) := by
  have x0 := x.toNat_lt
  have y0 := y.toNat_lt
  have z0 := z.toNat_lt
  have u0 := u.toNat_lt
  have e1 : bits .or .u32 ((x.toNat : Int) * 16777216) ((y.toNat : Int) * 65536) = (((x.toNat * 256 + y.toNat) * 2 ^ 16 : Nat) : Int) := by
    have h := or_low 24 x.toNat (y.toNat * 65536) (by omega) (by omega) (by omega)
    have a1 : (x.toNat : Int) * 16777216 = ((x.toNat * 2 ^ 24 : Nat) : Int) := by omega
    have a2 : (y.toNat : Int) * 65536 = ((y.toNat * 65536 : Nat) : Int) := by omega
    rw [a1, a2, h]
    omega
  have e2 : bits .or .u32 (((x.toNat * 256 + y.toNat) * 2 ^ 16 : Nat) : Int) ((z.toNat : Int) * 256) = ((((x.toNat * 256 + y.toNat) * 256 + z.toNat) * 2 ^ 8 : Nat) : Int) := by
    have h := or_low 16 (x.toNat * 256 + y.toNat) (z.toNat * 256) (by omega) (by omega) (by omega)
    have a2 : (z.toNat : Int) * 256 = ((z.toNat * 256 : Nat) : Int) := by omega
    rw [a2, h]
    omega
  have e3 : bits .or .u32 ((((x.toNat * 256 + y.toNat) * 256 + z.toNat) * 2 ^ 8 : Nat) : Int) (u.toNat : Int) = ((wd x y z u : Nat) : Int) := by
    have h := or_low 8 ((x.toNat * 256 + y.toNat) * 256 + z.toNat) u.toNat (by omega) (by omega) (by omega)
    rw [h]
    unfold wd
    omega
  rw [e1, e2, e3]
set_option maxHeartbeats 400000 in
theorem parse_c (a : Option Addr) (cap : Nat) (x y z u : UInt8) (w : World) (hr : Rd w a [x, y, z, u]) :
    Calls Tryd.prog 18 #[.slice a 4 cap] w fun e w' => e = .returned (.tuple #[.int .u32 (wd x y z u : Int), .int .i64 0]) ∧ ∃ n, w' = w.drewN n := by
  obtain ⟨b, o, rfl, hc⟩ := hr (by simp)
  have c0 := hc 0 (by simp)
  have c1 := hc 1 (by simp)
  have c2 := hc 2 (by simp)
  have c3 := hc 3 (by simp)
  simp at c0 c1 c2 c3
  have x0 := x.toNat_lt
  have y0 := y.toNat_lt
  have z0 := z.toNat_lt
  have u0 := u.toNat_lt
  have E := Lib.hid (or_word x y z u)
  clear hc hr
  go_enter Tryd.func18, Tryd.ntmps18
  go_wp2_with fail
  go_quiet (fail)
  go_wp2_with fail
  go_ret2
  refine ⟨?_, _, rfl⟩
  rw [← E.out]
  rfl
set_option maxHeartbeats 400000 in
theorem parse_short (a : Option Addr) (len cap : Nat) (w : World) (h : len < 4) :
    Calls Tryd.prog 18 #[.slice a len cap] w fun e w' => e = .returned (.tuple #[.int .u32 0, .int .i64 21]) ∧ w = w' := by
  go_enter Tryd.func18, Tryd.ntmps18
  go_wp2_with fail
  go_ret2
  exact ⟨rfl, rfl⟩
set_option maxHeartbeats 400000 in
theorem parse_long (a : Option Addr) (len cap : Nat) (w : World) (h : 4 < len) :
    Calls Tryd.prog 18 #[.slice a len cap] w fun e w' => e = .returned (.tuple #[.int .u32 0, .int .i64 20]) ∧ w = w' := by
  go_enter Tryd.func18, Tryd.ntmps18
  go_wp2_with fail
  go_ret2
  exact ⟨rfl, rfl⟩

/-- A number's four bytes, the highest first. -/
def wordOf (c : Nat) : List UInt8 := [UInt8.ofNat (c / 16777216), UInt8.ofNat (c / 65536), UInt8.ofNat (c / 256), UInt8.ofNat c]
def cellsOf (l : List UInt8) : Array Value := (l.map fun x => Value.int .u8 (x.toNat : Int)).toArray
theorem word_cells (c : Nat) (h : c < 4294967296) : #[Value.int .u8 ((c : Int) / 16777216), Value.int .u8 ((c : Int) / 65536 % 256), Value.int .u8 ((c : Int) / 256 % 256), Value.int .u8 ((c : Int) % 256)] = cellsOf (wordOf c) := by
  unfold cellsOf wordOf
  simp only [List.map_cons, List.map_nil, byte_nat]
  have e : (c : Int) / 16777216 = ((c / 16777216 : Nat) : Int) % 256 := by omega
  rw [e]
  simp
theorem wd_wordOf (c : Nat) (h : c < 4294967296) : wd (UInt8.ofNat (c / 16777216)) (UInt8.ofNat (c / 65536)) (UInt8.ofNat (c / 256)) (UInt8.ofNat c) = c := by
  unfold wd
  simp only [UInt8.toNat_ofNat']
  omega
theorem wordOf_wd (x y z u : UInt8) : wordOf (wd x y z u) = [x, y, z, u] := by
  have x0 := x.toNat_lt
  have y0 := y.toNat_lt
  have z0 := z.toNat_lt
  have u0 := u.toNat_lt
  unfold wordOf
  have e1 : UInt8.ofNat (wd x y z u / 16777216) = x := by
    apply UInt8.toNat_inj.mp
    rw [UInt8.toNat_ofNat']
    unfold wd
    omega
  have e2 : UInt8.ofNat (wd x y z u / 65536) = y := by
    apply UInt8.toNat_inj.mp
    rw [UInt8.toNat_ofNat']
    unfold wd
    omega
  have e3 : UInt8.ofNat (wd x y z u / 256) = z := by
    apply UInt8.toNat_inj.mp
    rw [UInt8.toNat_ofNat']
    unfold wd
    omega
  have e4 : UInt8.ofNat (wd x y z u) = u := by
    apply UInt8.toNat_inj.mp
    rw [UInt8.toNat_ofNat']
    unfold wd
    omega
  rw [e1, e2, e3, e4]
theorem wd_lt (x y z u : UInt8) : wd x y z u < 4294967296 := by
  have x0 := x.toNat_lt
  have y0 := y.toNat_lt
  have z0 := z.toNat_lt
  have u0 := u.toNat_lt
  unfold wd
  omega
set_option maxHeartbeats 400000 in
theorem word_c (c : Nat) (h : c < 4294967296) (w : World) :
    Calls Tryd.prog 17 #[.int .u32 (c : Int)] w fun e w' => e = .returned (.slice (some ⟨w.heap.size, 0, none⟩) 4 4) ∧ w.alloc (.cells (cellsOf (wordOf c)) 5) = w' := by
  have E := Lib.hid (word_cells c h)
  go_enter Tryd.func17, Tryd.ntmps17
  go_wp2_with fail
  go_ret
  refine ⟨rfl, ?_⟩
  rw [← E.out]

/-- The bytes of two slices are held against each other. -/
def strOf (l : List UInt8) : ByteArray := ⟨l.toArray⟩
theorem conv_rd (w : World) (a : Option Addr) (len cap : Nat) (l : List UInt8) (hl : l.length = len) (hr : Rd w a l) :
    (convert 22 9 (.slice a len cap)).run Tryd.prog w = .ok (.string (strOf l)) w := by
  subst hl
  by_cases h0 : l = []
  · subst h0
    cases a with
    | none =>
      rw [run_convert_bytes_nil w 22 5 Tryd.underlying22 Tryd.underlying5 _ _ 9 Tryd.underlying9]
      rfl
    | some x =>
      rw [run_convert_bytes_string w 22 9 5 _ _ _ Tryd.underlying22 Tryd.underlying5 Tryd.underlying9]
      exact run_bytesToString (P := Tryd.prog) w x 0 cap [] (run_loadCells_list (P := Tryd.prog) w x [] (fun j v hj => by simp at hj))
  · obtain ⟨b, o, rfl, hc⟩ := hr (List.length_pos_iff.mpr h0)
    have h := run_convert_bytes_arg (P := Tryd.prog) w 22 5 Tryd.underlying22 Tryd.underlying5 b o l.length cap (l.map fun x => (x.toNat : Int)) (by simp) (fun i hi => by
      rw [hc i hi]
      simp [List.getD, List.getElem?_eq_getElem hi]) 9 Tryd.underlying9
    rw [h]
    congr 2
    unfold strOfNums strOf
    congr 2
    rw [List.map_map]
    conv => rhs; rw [← List.map_id l]
    apply List.map_congr_left
    intro x _
    simp
theorem strOf_toList (l : List UInt8) : (strOf l).toList = l := by
  rw [ByteArray.toList_eq]
  rfl
set_option maxHeartbeats 400000 in
theorem same_c (a a' : Option Addr) (len cap len' cap' : Nat) (l l' : List UInt8) (w : World) (hl : l.length = len) (hl' : l'.length = len') (hr : Rd w a l) (hr' : Rd w a' l') :
    Calls Tryd.prog 19 #[.slice a len cap, .slice a' len' cap'] w fun e w' => e = .returned (.bool (l == l')) ∧ w = w' := by
  have k1 := conv_rd w a len cap l hl hr
  have k2 := conv_rd w a' len' cap' l' hl' hr'
  have t1 := strOf_toList l
  have t2 := strOf_toList l'
  clear hl hl' hr hr'
  go_enter Tryd.func19, Tryd.ntmps19
  go_wp2_with fail
  go_ret
  exact ⟨rfl, rfl⟩

/-- What is known of the world behind the word that was made and read. -/
structure Worded (n : Nat) (w W : World) : Prop where
  below : Below w.heap.size w W
  c0 : W.cell? ⟨w.heap.size, 0, none⟩ = some (.int .u8 ((UInt8.ofNat (n / 16777216)).toNat : Int))
  c1 : W.cell? ⟨w.heap.size, 1, none⟩ = some (.int .u8 ((UInt8.ofNat (n / 65536)).toNat : Int))
  c2 : W.cell? ⟨w.heap.size, 2, none⟩ = some (.int .u8 ((UInt8.ofNat (n / 256)).toNat : Int))
  c3 : W.cell? ⟨w.heap.size, 3, none⟩ = some (.int .u8 ((UInt8.ofNat n).toNat : Int))
theorem worded (n : Nat) (w : World) (t : TypeId) (q : Nat) : Worded n w ((w.alloc (.cells (cellsOf (wordOf n)) t)).drewN q) := by
  have hb : Below w.heap.size w ((w.alloc (.cells (cellsOf (wordOf n)) t)).drewN q) := by
    have h := (Below.refl w.heap.size w).alloc (Nat.le_refl _) (.cells (cellsOf (wordOf n)) t)
    exact ⟨h.os, h.tape, h.output, h.size, h.block⟩
  have hc : ∀ i, ((w.alloc (.cells (cellsOf (wordOf n)) t)).drewN q).cell? ⟨w.heap.size, i, none⟩ = (cellsOf (wordOf n))[i]? := fun i => cell_new w _ t (0, 0) i
  exact ⟨hb, by rw [hc]; rfl, by rw [hc]; rfl, by rw [hc]; rfl, by rw [hc]; rfl⟩
theorem back_word (n : Nat) (h : n < 4294967296) :
    (((((UInt8.ofNat (n / 16777216)).toNat : Int) * 256 + ((UInt8.ofNat (n / 65536)).toNat : Int)) * 256 + ((UInt8.ofNat (n / 256)).toNat : Int)) * 256 + ((UInt8.ofNat n).toNat : Int)) = (n : Int) := by
  simp only [byte_nat]
  omega

set_option maxHeartbeats 1000000 in
theorem words_short (w : World) (ht : Tab w) (n : Nat) (hn : n < 4294967296) (a : Option Addr) (len cap : Nat) (l : List UInt8) (hl : l.length = len) (hr : Rd w a l) (hlen : len < 4) :
    Calls Tryd.prog 6 #[.int .u32 (n : Int), .slice a len cap] w fun e w' => e = .returned (.bool true) ∧ Below w.heap.size w w' := by
  have HA := Lib.hid fun (w : World) (ht : Tab w) => awake_c w ht
  have C1 := Lib.hid (word_c n hn w)
  have HT := Lib.hid ht
  have HB := Lib.hid (back_word n hn)
  have HW := Lib.hid (wd_wordOf n hn)
  clear ht hr hl
  go_enter Tryd.func6, Tryd.ntmps6
  go_wp2_with fail
  refine (show Calls _ _ _ _ _ from C1.out).mono ?_
  rintro e w' ⟨rfl, rfl⟩
  go_wp2_with fail
  refine (parse_c _ 4 _ _ _ _ _ (Rd.new (C := cellsOf (wordOf n)) (wordOf n) rfl)).mono ?_
  rw [HW.out]
  rintro e w' ⟨rfl, q, rfl⟩
  have HWW := Lib.hid (worded n w 5 q)
  generalize (w.alloc (.cells (cellsOf (wordOf n)) 5)).drewN q = W at HWW
  have HTW := Lib.hid (HT.out.below HWW.out.below (Nat.le_refl _))
  have HBW := Lib.hid HWW.out.below
  obtain ⟨_, d0, d1, d2, d3⟩ := HWW.out
  have b0 := (UInt8.ofNat (n / 16777216)).toNat_lt
  have b1 := (UInt8.ofNat (n / 65536)).toNat_lt
  have b2 := (UInt8.ofNat (n / 256)).toNat_lt
  have b3 := (UInt8.ofNat n).toNat_lt
  clear HWW HW C1
  generalize (UInt8.ofNat (n / 16777216)).toNat = z0 at HB d0 b0
  generalize (UInt8.ofNat (n / 65536)).toNat = z1 at HB d1 b1
  generalize (UInt8.ofNat (n / 256)).toNat = z2 at HB d2 b2
  generalize (UInt8.ofNat n).toNat = z3 at HB d3 b3
  generalize hg : w.heap.size = g at *
  have Hg := Lib.hid hg
  clear hg
  go_wp2_with fail
  refine wp_loop_rounds 5 ?_
  rw [rounds_succ]
  go_wp2_with fail
  rw [rounds_succ]
  go_wp2_with fail
  rw [rounds_succ]
  go_wp2_with fail
  have hbk := HB.out
  rw [rounds_succ]
  go_wp2_with fail
  rw [rounds_succ]
  clear d0 d1 d2 d3
  go_wp2_with fail
  clear hbk
  refine (parse_short a len cap W hlen).mono ?_
  rintro e w' ⟨rfl, rfl⟩
  go_wp2_with fail
  refine (HA.out _ HTW.out).mono ?_
  rintro e w' ⟨rfl, hb⟩
  go_wp2_with fail
  go_ret
  have hB : Below w.heap.size w W := by
    rw [Hg.out]
    exact HBW.out
  exact ⟨rfl, hB.trans (hb.mono hB.size)⟩
set_option maxHeartbeats 1000000 in
theorem words_long (w : World) (ht : Tab w) (n : Nat) (hn : n < 4294967296) (a : Option Addr) (len cap : Nat) (l : List UInt8) (hl : l.length = len) (hr : Rd w a l) (hlen : 4 < len) :
    Calls Tryd.prog 6 #[.int .u32 (n : Int), .slice a len cap] w fun e w' => e = .returned (.bool true) ∧ Below w.heap.size w w' := by
  have HA := Lib.hid fun (w : World) (ht : Tab w) => awake_c w ht
  have C1 := Lib.hid (word_c n hn w)
  have HT := Lib.hid ht
  have HB := Lib.hid (back_word n hn)
  have HW := Lib.hid (wd_wordOf n hn)
  clear ht hr hl
  go_enter Tryd.func6, Tryd.ntmps6
  go_wp2_with fail
  refine (show Calls _ _ _ _ _ from C1.out).mono ?_
  rintro e w' ⟨rfl, rfl⟩
  go_wp2_with fail
  refine (parse_c _ 4 _ _ _ _ _ (Rd.new (C := cellsOf (wordOf n)) (wordOf n) rfl)).mono ?_
  rw [HW.out]
  rintro e w' ⟨rfl, q, rfl⟩
  have HWW := Lib.hid (worded n w 5 q)
  generalize (w.alloc (.cells (cellsOf (wordOf n)) 5)).drewN q = W at HWW
  have HTW := Lib.hid (HT.out.below HWW.out.below (Nat.le_refl _))
  have HBW := Lib.hid HWW.out.below
  obtain ⟨_, d0, d1, d2, d3⟩ := HWW.out
  have b0 := (UInt8.ofNat (n / 16777216)).toNat_lt
  have b1 := (UInt8.ofNat (n / 65536)).toNat_lt
  have b2 := (UInt8.ofNat (n / 256)).toNat_lt
  have b3 := (UInt8.ofNat n).toNat_lt
  clear HWW HW C1
  generalize (UInt8.ofNat (n / 16777216)).toNat = z0 at HB d0 b0
  generalize (UInt8.ofNat (n / 65536)).toNat = z1 at HB d1 b1
  generalize (UInt8.ofNat (n / 256)).toNat = z2 at HB d2 b2
  generalize (UInt8.ofNat n).toNat = z3 at HB d3 b3
  generalize hg : w.heap.size = g at *
  have Hg := Lib.hid hg
  clear hg
  go_wp2_with fail
  refine wp_loop_rounds 5 ?_
  rw [rounds_succ]
  go_wp2_with fail
  rw [rounds_succ]
  go_wp2_with fail
  rw [rounds_succ]
  go_wp2_with fail
  have hbk := HB.out
  rw [rounds_succ]
  go_wp2_with fail
  rw [rounds_succ]
  clear d0 d1 d2 d3
  go_wp2_with fail
  clear hbk
  refine (parse_long a len cap W hlen).mono ?_
  rintro e w' ⟨rfl, rfl⟩
  go_wp2_with fail
  refine (HA.out _ HTW.out).mono ?_
  rintro e w' ⟨rfl, hb⟩
  go_wp2_with fail
  go_ret
  have hB : Below w.heap.size w W := by
    rw [Hg.out]
    exact HBW.out
  exact ⟨rfl, hB.trans (hb.mono hB.size)⟩
set_option maxHeartbeats 1000000 in
theorem words_four (w : World) (ht : Tab w) (n : Nat) (hn : n < 4294967296) (a : Option Addr) (cap : Nat) (x y z u : UInt8) (hr : Rd w a [x, y, z, u])  :
    Calls Tryd.prog 6 #[.int .u32 (n : Int), .slice a 4 cap] w fun e w' => e = .returned (.bool true) ∧ Below w.heap.size w w' := by
  have HA := Lib.hid fun (w : World) (ht : Tab w) => awake_c w ht
  have C1 := Lib.hid (word_c n hn w)
  have HT := Lib.hid ht
  have HB := Lib.hid (back_word n hn)
  have HW := Lib.hid (wd_wordOf n hn)
  have HR := Lib.hid hr
  clear ht hr
  go_enter Tryd.func6, Tryd.ntmps6
  go_wp2_with fail
  refine (show Calls _ _ _ _ _ from C1.out).mono ?_
  rintro e w' ⟨rfl, rfl⟩
  go_wp2_with fail
  refine (parse_c _ 4 _ _ _ _ _ (Rd.new (C := cellsOf (wordOf n)) (wordOf n) rfl)).mono ?_
  rw [HW.out]
  rintro e w' ⟨rfl, q, rfl⟩
  have HWW := Lib.hid (worded n w 5 q)
  generalize (w.alloc (.cells (cellsOf (wordOf n)) 5)).drewN q = W at HWW
  have HTW := Lib.hid (HT.out.below HWW.out.below (Nat.le_refl _))
  have HBW := Lib.hid HWW.out.below
  obtain ⟨_, d0, d1, d2, d3⟩ := HWW.out
  have b0 := (UInt8.ofNat (n / 16777216)).toNat_lt
  have b1 := (UInt8.ofNat (n / 65536)).toNat_lt
  have b2 := (UInt8.ofNat (n / 256)).toNat_lt
  have b3 := (UInt8.ofNat n).toNat_lt
  clear HWW HW C1
  generalize (UInt8.ofNat (n / 16777216)).toNat = z0 at HB d0 b0
  generalize (UInt8.ofNat (n / 65536)).toNat = z1 at HB d1 b1
  generalize (UInt8.ofNat (n / 256)).toNat = z2 at HB d2 b2
  generalize (UInt8.ofNat n).toNat = z3 at HB d3 b3
  generalize hg : w.heap.size = g at *
  have Hg := Lib.hid hg
  clear hg
  go_wp2_with fail
  refine wp_loop_rounds 5 ?_
  rw [rounds_succ]
  go_wp2_with fail
  rw [rounds_succ]
  go_wp2_with fail
  rw [rounds_succ]
  go_wp2_with fail
  have hbk := HB.out
  rw [rounds_succ]
  go_wp2_with fail
  rw [rounds_succ]
  clear d0 d1 d2 d3
  go_wp2_with fail
  clear hbk
  have hB : Below w.heap.size w W := by
    rw [Hg.out]
    exact HBW.out
  have HBb := Lib.hid hB
  have HRW := Lib.hid (HR.out.below hB (Nat.le_refl _))
  clear hB
  refine (parse_c a cap x y z u W HRW.out).mono ?_
  rintro e w' ⟨rfl, q2, rfl⟩
  have HB2 : Hid (Below W.heap.size W (W.drewN q2)) := Lib.hid ⟨rfl, rfl, rfl, Nat.le_refl _, fun _ _ => rfl⟩
  generalize hm : wd x y z u = m
  have Hm := Lib.hid hm
  clear hm
  have hml : m < 4294967296 := by
    have := wd_lt x y z u
    rw [Hm.out] at this
    exact this
  have Hml := Lib.hid hml
  clear hml
  generalize W.drewN q2 = V at HB2
  go_wp2_with fail
  refine (word_c m Hml.out V).mono ?_
  rintro e w' ⟨rfl, rfl⟩
  go_wp2_with fail
  have hn := fun o => (Below.refl V.heap.size V).alloc (Nat.le_refl _) o
  refine (same_c _ _ 4 4 4 cap [x, y, z, u] [x, y, z, u] _ rfl rfl (Rd.new _ (by rw [← Hm.out, wordOf_wd]; rfl)) ((HRW.out.below HB2.out (Nat.le_refl _)).below (hn _) (Nat.le_refl _))).mono ?_
  rw [beq_self_eq_true]
  rintro e w' ⟨rfl, rfl⟩
  clear hn
  go_wp2_with fail
  have hn := fun o => (Below.refl V.heap.size V).alloc (Nat.le_refl _) o
  refine (HA.out _ ((HTW.out.below HB2.out (Nat.le_refl _)).below (hn _) (Nat.le_refl _))).mono ?_
  rintro e w' ⟨rfl, hb⟩
  clear hn
  go_wp2_with fail
  go_ret
  have hn := fun o => (Below.refl V.heap.size V).alloc (Nat.le_refl _) o
  exact ⟨rfl, HBb.out.trans ((HB2.out.trans (((hn _).trans (hb.mono (by simp))).mono HB2.out.size)).mono HBb.out.size)⟩
theorem sumWords_walk (w : World) (ht : Tab w) (c : Int) (wc : (Lit.int .u32 c).wf = true) (a : Option Addr) (len cap : Nat) (l : List UInt8) (hl : l.length = len) (hc : len ≤ cap) (_hm : cap ≤ maxLen) (hr : Rd w a l) :
    Calls Tryd.prog 6 #[.int .u32 c, .slice a len cap] w fun e w' => e = .returned (.bool true) ∧ Below w.heap.size w w' := by
  obtain ⟨c0, c1⟩ := bounds_u32 wc
  obtain ⟨n, rfl⟩ := Int.eq_ofNat_of_zero_le c0
  rcases Nat.lt_trichotomy len 4 with h | h | h
  · exact words_short w ht n (by omega) a len cap l hl hr h
  · subst h
    match l, hl, hr with
    | [x, y, z, u], _, hr => exact words_four w ht n (by omega) a cap x y z u hr
  · exact words_long w ht n (by omega) a len cap l hl hr h
end Go.Proofs.YtefkbedpnojibaaDoor
