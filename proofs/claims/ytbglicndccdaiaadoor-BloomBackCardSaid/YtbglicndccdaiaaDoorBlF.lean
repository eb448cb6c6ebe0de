/-
  Layer 4: a filter in memory; contracts of its plain functions: Bits, Probes, Set, New.
-/
import Derived.Test.YtbglicndccdaiaaDoorBlM
import Derived.Lib.BitFns
import Derived.Lib.Tables
import Derived.Lib.Walk
import Derived.Laws.MakeOwn
namespace Go.Proofs.YtbglicndccdaiaaDoor
set_option linter.unusedVariables false
open Go.RowKit

theorem At.alloc {w : World} {g : Nat} {t : TypeId} {cs : Array Value} (h : At w g t cs) (o : Obj) : At (w.alloc o) g t cs := h.keep ((Fr.refl No w).alloc o) (fun h => h)
theorem At.new' (w : World) (t : TypeId) (cs : Array Value) {g : Nat} (h : w.heap.size = g) : At (w.alloc (.cells cs t)) g t cs := by
  subst h
  exact At.new w t cs
/-- A FILTER: its block, that of its bytes. -/
structure Fil (w : World) (b g : Nat) (bs : List UInt8) (p : Nat) : Prop where
  ob : ∃ c, At w b 51 #[.int .i64 (p : Int), .slice (some ⟨g, 0, none⟩) bs.length c] ∧ Row w (One g) (.slice (some ⟨g, 0, none⟩) bs.length c) bs ∧ c ≤ maxLen
  ne : b ≠ g
theorem Fil.keep {w w' : World} {b g : Nat} {bs : List UInt8} {p : Nat} {T : Nat → Prop} (h : Fil w b g bs p) (f : Fr T w w') (h1 : ¬ T b) (h2 : ¬ T g) : Fil w' b g bs p := by
  obtain ⟨c, h3, h4, h5⟩ := h.ob
  exact ⟨⟨c, h3.keep f h1, h4.keep f (fun k hk hT => h2 (by have : k = g := hk; rwa [this] at hT)), h5⟩, h.ne⟩
theorem Fil.put {w : World} {b g : Nat} {bs : List UInt8} {p : Nat} (h : Fil w b g bs p) {i : Nat} (hi : i < 8 * bs.length) (x : Nat) (hx : x = (bs.getD (i / 8) 0).toNat ||| 2 ^ (i % 8)) :
    Fil (w.setCell ⟨g, i / 8, none⟩ (.int .u8 (x : Int))) b g (putB bs i) p ∧ Fr (One g) w (w.setCell ⟨g, i / 8, none⟩ (.int .u8 (x : Int))) := by
  obtain ⟨c, h3, h4, h5⟩ := h.ob
  obtain ⟨g', cap, hv, _, _, _, _, _, hset⟩ := h4.at_ (i := i / 8) (by omega)
  simp only [Value.slice.injEq, Option.some.injEq, Addr.mk.injEq, and_true] at hv
  obtain ⟨rfl, _, rfl⟩ := hv
  obtain ⟨h6, h7⟩ := hset (UInt8.ofNat x)
  have hx2 : x < 256 := by rw [hx]; exact or_lt256 _ _ (u8_lt _) (by omega)
  rw [toNat_of x hx2] at h6 h7
  refine ⟨⟨⟨c, ?_, ?_, h5⟩, h.ne⟩, h7⟩
  · rw [putB_length]
    exact h3.keep h7 (fun e => h.ne e)
  · rw [putB_length]
    unfold putB
    rw [← hx]
    exact h6
theorem Fil.bytes {w : World} {b g : Nat} {bs : List UInt8} {p : Nat} (h : Fil w b g bs p) (i : Nat) (hi : i < bs.length) : w.cell? ⟨g, i, none⟩ = some (.int .u8 ((bs.getD i 0).toNat : Int)) ∧ w.frozen? ⟨g, i, none⟩ = false := by
  obtain ⟨c, h3, h4, h5⟩ := h.ob
  obtain ⟨g', cap, hv, _, _, _, h8, h9, hset⟩ := h4.at_ hi
  simp only [Value.slice.injEq, Option.some.injEq, Addr.mk.injEq, and_true] at hv
  obtain ⟨rfl, _, rfl⟩ := hv
  exact ⟨h8, h9⟩
theorem Fil.lt {w : World} {b g : Nat} {bs : List UInt8} {p : Nat} (h : Fil w b g bs p) : b < w.heap.size ∧ g < w.heap.size := by
  obtain ⟨c, h3, h4, h5⟩ := h.ob
  exact ⟨h3.lt, (h4.block (k := g) rfl).2⟩
/-- Its two cells, its bytes as a slice that is read. -/
theorem Fil.cells {w : World} {b g : Nat} {bs : List UInt8} {p : Nat} (h : Fil w b g bs p) : ∃ c, w.cell? ⟨b, 0, none⟩ = some (.int .i64 (p : Int)) ∧ w.cell? ⟨b, 1, none⟩ = some (.slice (some ⟨g, 0, none⟩) bs.length c) ∧ bs.length ≤ c ∧ c ≤ maxLen ∧ Rd w (some ⟨g, 0, none⟩) bs := by
  obtain ⟨c, h3, h4, h5⟩ := h.ob
  have c0 := h3.cell 0
  have c1 := h3.cell 1
  simp at c0 c1
  obtain ⟨a, c', hv, h6, _, h7⟩ := h4.form
  simp only [Value.slice.injEq] at hv
  obtain ⟨rfl, _, rfl⟩ := hv
  exact ⟨c, c0, c1, h6, h5, h7.rd⟩

set_option maxHeartbeats 400000 in
theorem bits_c (b g : Nat) (bs : List UInt8) (p : Nat) (w : World) (h : Fil w b g bs p) (hn : bs.length ≤ 1000000000) :
    Calls Tryd.prog 17 #[.pointer (some ⟨b, 0, none⟩)] w fun e w' => e = .returned (.int .i64 ((8 * bs.length : Nat) : Int)) ∧ w = w' := by
  obtain ⟨c, c0, c1, _, _, _⟩ := h.cells
  clear h
  generalize bs.length = N at *
  go_enter Tryd.func17, Tryd.ntmps17
  go_wp2_with fail
  go_ret
  exact ⟨congrArg (fun x => Ending.returned (.int .i64 x)) (by omega), rfl⟩
set_option maxHeartbeats 400000 in
theorem probes_c (b g : Nat) (bs : List UInt8) (p : Nat) (w : World) (h : Fil w b g bs p) :
    Calls Tryd.prog 18 #[.pointer (some ⟨b, 0, none⟩)] w fun e w' => e = .returned (.int .i64 (p : Int)) ∧ w = w' := by
  obtain ⟨c, c0, c1, _, _, _⟩ := h.cells
  clear h
  go_enter Tryd.func18, Tryd.ntmps18
  go_wp2_with fail
  go_ret
  exact ⟨rfl, rfl⟩
set_option maxRecDepth 20000 in
theorem pop_here : (⟨((([0, 1, 1, 2, 1, 2, 2, 3, 1, 2, 2, 3, 2, 3, 3, 4, 1, 2, 2, 3, 2, 3, 3, 4, 2, 3, 3, 4, 3, 4, 4, 5, 1, 2, 2, 3, 2, 3, 3, 4, 2, 3, 3, 4, 3, 4, 4, 5, 2, 3, 3, 4, 3, 4, 4, 5, 3, 4, 4, 5, 4, 5, 5, 6] : List UInt8).append [1, 2, 2, 3, 2, 3, 3, 4, 2, 3, 3, 4, 3, 4, 4, 5, 2, 3, 3, 4, 3, 4, 4, 5, 3, 4, 4, 5, 4, 5, 5, 6, 2, 3, 3, 4, 3, 4, 4, 5, 3, 4, 4, 5, 4, 5, 5, 6, 3, 4, 4, 5, 4, 5, 5, 6, 4, 5, 5, 6, 5, 6, 6, 7]).append (([1, 2, 2, 3, 2, 3, 3, 4, 2, 3, 3, 4, 3, 4, 4, 5, 2, 3, 3, 4, 3, 4, 4, 5, 3, 4, 4, 5, 4, 5, 5, 6, 2, 3, 3, 4, 3, 4, 4, 5, 3, 4, 4, 5, 4, 5, 5, 6, 3, 4, 4, 5, 4, 5, 5, 6, 4, 5, 5, 6, 5, 6, 6, 7] : List UInt8).append [2, 3, 3, 4, 3, 4, 4, 5, 3, 4, 4, 5, 4, 5, 5, 6, 3, 4, 4, 5, 4, 5, 5, 6, 4, 5, 5, 6, 5, 6, 6, 7, 3, 4, 4, 5, 4, 5, 5, 6, 4, 5, 5, 6, 5, 6, 6, 7, 4, 5, 5, 6, 5, 6, 6, 7, 5, 6, 6, 7, 6, 7, 7, 8])).toArray⟩ : ByteArray) = Lib.pop8tab := by kernel_rfl
set_option maxRecDepth 20000 in
set_option maxHeartbeats 400000 in
theorem ones_c (x : UInt8) (w : World) : Calls Tryd.prog 29 #[.int .u8 (x.toNat : Int)] w fun e w' => e = .returned (.int .i64 (popB x : Int)) ∧ w = w' := by
  have hn := u8_lt x
  rw [← popB_ones]
  generalize x.toNat = n at *
  have h0 : (0 : Int) ≤ (n : Int) := by omega
  have h1 : (n : Int) ≤ 255 := by omega
  have hw : wrap64 (Lib.pop8 (n : Int)) = (Lib.onesCount n : Int) := by
    have h2 := Lib.pop8_eq ⟨n, hn⟩
    have h3 := Lib.onesCount_le8 ⟨n, hn⟩
    have h2 : Lib.pop8 (n : Int) = (Lib.onesCount n : Int) := h2
    have h3 : Lib.onesCount n ≤ 8 := h3
    rw [h2]
    unfold wrap64
    omega
  have hw := Lib.hid hw
  go_enter Tryd.func29, Tryd.ntmps29
  rw [pop_here]
  go_wp2
  go_ret
  exact ⟨congrArg (fun x => Ending.returned (.int .i64 x)) hw.out, rfl⟩
theorem setN_take (bs : List UInt8) (k : Nat) (h : k < bs.length) : setN (bs.take (k + 1)) = setN (bs.take k) + popB (bs.getD k 0) := by
  rw [List.take_add_one, setN_append]
  simp [List.getD, h, setN]
set_option maxRecDepth 20000 in
set_option maxHeartbeats 800000 in
theorem set_c (b g : Nat) (bs : List UInt8) (p : Nat) (w : World) (h : Fil w b g bs p) (hn : bs.length ≤ 1000000000) :
    Calls Tryd.prog 19 #[.pointer (some ⟨b, 0, none⟩)] w fun e w' => e = .returned (.int .i64 (setN bs : Int)) ∧ w = w' := by
  obtain ⟨c, c0, c1, hc1, hc2, hrd⟩ := h.cells
  have HB := Lib.hid h.bytes
  have HT := Lib.hid (setN_take bs)
  have HLE := Lib.hid (fun k => setN_le (bs.take k))
  have HALL := Lib.hid (show setN (bs.take bs.length) = setN bs by rw [List.take_length])
  have HLT := Lib.hid (fun k => List.length_take_le k bs)
  clear h hrd
  generalize bs.length = N at *
  go_enter Tryd.func19, Tryd.ntmps19
  go_wp2_with fail
  go_loopw [3, 11] (fun n i wr => ∃ k : Nat, i = .int .i64 k ∧ k ≤ N ∧ n = .int .i64 (setN (bs.take k) : Int) ∧ wr = w) (fun _ i _ => N - (intOf i).toNat)
  case atStart => exact ⟨0, rfl, Nat.zero_le _, by simp [setN], rfl⟩
  case round =>
    obtain ⟨k, rfl, hk, rfl, rfl⟩ := hrel
    by_cases h1 : k < N
    · obtain ⟨ck, _⟩ := HB.out k h1
      have C1 := Lib.hid (ones_c (bs.getD k 0))
      have hs := HT.out k h1
      have hle := HLE.out k
      have hlt := HLT.out k
      have hp := popB_le (bs.getD k 0)
      generalize (bs.getD k 0) = x at *
      generalize setN (bs.take k) = S at *
      have hS : S ≤ 8000000000 := by omega
      have hs := Lib.hid hs
      clear hle hlt
      generalize popB x = y at *
      go_wp2_with fail
      refine (C1.out _).mono ?_
      rintro e w1 ⟨rfl, rfl⟩
      go_wp2_with fail
      go_roundw
      case rel => exact ⟨k + 1, by simp, by omega, by rw [hs.out]; simp, by simp⟩
      case measure => simp [intOf]; omega
    · have hkp : k = N := by omega
      subst hkp
      rw [HALL.out]
      go_wp2_with fail
      go_ret
      exact ⟨rfl, rfl⟩
set_option maxHeartbeats 800000 in
theorem bit_c (i : Nat) (w : World) (hi : i ≤ 1000000000000) : Calls Tryd.prog 28 #[.int .i64 (i : Int)] w fun e w' => e = .returned (.int .u8 ((2 ^ (i % 8) : Nat) : Int)) ∧ w = w' := by
  have h : i % 8 = 0 ∨ i % 8 = 1 ∨ i % 8 = 2 ∨ i % 8 = 3 ∨ i % 8 = 4 ∨ i % 8 = 5 ∨ i % 8 = 6 ∨ i % 8 = 7 := by omega
  rcases h with h | h | h | h | h | h | h | h
  all_goals
    rw [h]
    have h8 : (i : Int) % 8 = ((i % 8 : Nat) : Int) := by omega
    rw [h] at h8
    clear h
    go_enter Tryd.func28, Tryd.ntmps28
    go_wp2_with fail
    go_ret
    exact ⟨rfl, rfl⟩
set_option maxHeartbeats 400000 in
theorem right_c (n : Int) (w : World) (h0 : -9223372036854775808 ≤ n) (h1 : n ≤ 9223372036854775807) : Calls Tryd.prog 31 #[.int .i64 n] w fun e w' => e = .returned (.bool (decide (1 ≤ n) && decide (n ≤ 30))) ∧ w = w' := by
  rcases Int.lt_or_le n 1 with h | h
  · have d1 : decide (1 ≤ n) = false := decide_eq_false (by omega)
    rw [d1]
    go_enter Tryd.func31, Tryd.ntmps31
    go_wp2_with fail
    go_ret
    exact ⟨rfl, rfl⟩
  · have d1 : decide (1 ≤ n) = true := decide_eq_true (by omega)
    rw [d1, Bool.true_and]
    go_enter Tryd.func31, Tryd.ntmps31
    go_wp2_with fail
    go_ret
    exact ⟨rfl, rfl⟩
end Go.Proofs.YtbglicndccdaiaaDoor
