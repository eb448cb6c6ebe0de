/-
  Texts of layer 14 and of what it stands on, one behind the other.
-/
import Derived.Test.YtihahckjcedceaaDoorMg14
import Derived.Test.YtihahckjcedceaaDoorMg04
import Derived.StillTailTactics
import Derived.Deep.RegionHeld3
import Derived.Deep.QuietTactic
import Derived.BigQuiet
import Derived.Test.YtihahckjcedceaaDoorMg15

/- Layer 3: Check of a key. -/
namespace Go.Proofs.YtihahckjcedceaaDoor
set_option linter.unusedVariables false
open Go.RowKit

theorem check_yes (s : ByteArray) (q k : Int) (w : World) (h : Rt s.size q k) :
    Calls Tryd.prog 65 #[.agg #[.string s, .int .i64 q, .int .i64 k]] w (PlainRet (.int .i64 0) w) := by
  obtain ⟨h1, h2, h3, h4, h5, h6⟩ := h
  go_enter Tryd.func65, Tryd.ntmps65
  go_wp2_with fail
  go_ret
  exact ⟨rfl, (Fr.refl _ _).alloc _⟩
theorem check_no (s : ByteArray) (q k : Int) (w : World) (h : ¬ Rt s.size q k) :
    Calls Tryd.prog 65 #[.agg #[.string s, .int .i64 q, .int .i64 k]] w (PlainRet (.int .i64 30) w) := by
  unfold Rt at h
  have h' : ¬ 1 ≤ (s.size : Int) ∨ (1 ≤ (s.size : Int) ∧ ¬ (s.size : Int) ≤ 64) ∨ (1 ≤ (s.size : Int) ∧ (s.size : Int) ≤ 64 ∧ ¬ 0 ≤ q) ∨ (1 ≤ (s.size : Int) ∧ (s.size : Int) ≤ 64 ∧ 0 ≤ q ∧ ¬ q ≤ 1099511627776) ∨
    (1 ≤ (s.size : Int) ∧ (s.size : Int) ≤ 64 ∧ 0 ≤ q ∧ q ≤ 1099511627776 ∧ ¬ 1 ≤ k) ∨ (1 ≤ (s.size : Int) ∧ (s.size : Int) ≤ 64 ∧ 0 ≤ q ∧ q ≤ 1099511627776 ∧ 1 ≤ k ∧ ¬ k ≤ 3) := by omega
  clear h
  rcases h' with h1 | ⟨h1, h2⟩ | ⟨h1, h2, h3⟩ | ⟨h1, h2, h3, h4⟩ | ⟨h1, h2, h3, h4, h5⟩ | ⟨h1, h2, h3, h4, h5, h6⟩
  all_goals
    go_enter Tryd.func65, Tryd.ntmps65
    go_wp2_with fail
    go_ret
    exact ⟨rfl, (Fr.refl _ _).alloc _⟩
end Go.Proofs.YtihahckjcedceaaDoor

/- Contracts of layer 3's functions that make a key's bytes: putUser, putTail, Bytes. -/
namespace Go.Proofs.YtihahckjcedceaaDoor
set_option linter.unusedVariables false
open Go.RowKit

theorem Rd.two (w : World) (t : TypeId) (c d : UInt8) : Rd (w.alloc (.cells #[.int .u8 (c.toNat : Int), .int .u8 (d.toNat : Int)] t)) (some ⟨w.heap.size, 0, none⟩) [c, d] := fun _ => by
  refine ⟨_, _, rfl, fun i hi => ?_⟩
  have h : i = 0 ∨ i = 1 := by simp at hi; omega
  rcases h with rfl | rfl
  · exact At.cell (At.new w t #[.int .u8 (c.toNat : Int), .int .u8 (d.toNat : Int)]) 0
  · exact At.cell (At.new w t #[.int .u8 (c.toNat : Int), .int .u8 (d.toNat : Int)]) 1
/-- APPEND OF TWO BYTES, which lie in a new block of their own. -/
theorem Row.push2 {w : World} {S : Nat → Prop} {v : Value} {l : List UInt8} (h : Row w S v l) (hS : ∀ k, S k → k < w.heap.size) (c d : UInt8) (hb : l.length + 1 < 140737488355328) :
    ∃ v' w', (Builtin.append_ #[51, 51] 51 #[v, .slice (some ⟨w.heap.size, 0, none⟩) 2 2]).run Tryd.prog (w.alloc (.cells #[.int .u8 (c.toNat : Int), .int .u8 (d.toNat : Int)] 5)) = .ok v' w' ∧ Row w' (Gr S w w') v' (l ++ [c, d]) ∧ Fr S w w' := by
  have f := (Fr.refl No w).alloc (.cells #[.int .u8 (c.toNat : Int), .int .u8 (d.toNat : Int)] 5)
  obtain ⟨v', w', h1, h2, h3⟩ := (h.keep f fun _ _ h => h).append (some ⟨w.heap.size, 0, none⟩) 2 2 [c, d] rfl (Rd.two w _ c d) (by omega)
  refine ⟨v', w', h1, h2.sub fun k _ hk => ?_, (f.sub fun _ _ h => h.elim).then_ h3 fun _ _ h => h⟩
  rcases hk with hk | hk
  · exact .inl hk
  · exact .inr ⟨by have := f.size; omega, hk.2⟩
theorem gr_lt {w wr : World} : ∀ k, Gr No w wr k → k < wr.heap.size := fun k hk => by
  rcases hk with hk | hk
  · exact hk.elim
  · exact hk.2
theorem escs_take (l : List UInt8) (k : Nat) (h : k < l.length) : escs (l.take (k + 1)) = escs (l.take k) ++ esc (l.getD k 0) := by
  rw [List.take_add_one, escs_append]
  congr 1
  simp [List.getD, List.getElem?_eq_getElem h, escs]
theorem escs_take_len (l : List UInt8) (k : Nat) (h : k ≤ 1000) : (escs (l.take k)).length ≤ 2000 := by
  have h1 := escs_length (l.take k)
  have h2 : (l.take k).length ≤ k := by simp; omega
  omega

set_option maxRecDepth 20000 in
set_option maxHeartbeats 800000 in
theorem putUser_c (s : ByteArray) (hs : s.size ≤ 1000) (w : World) :
    Calls Tryd.prog 67 #[.slice none 0 0, .string s] w (NewRow (escs s.data.toList ++ [0, 1]) w) := by
  go_enter Tryd.func67, Tryd.ntmps67
  go_wp2_with fail
  go_loopw [0, 8] (fun b i wr => ∃ k : Nat, i = .int .i64 k ∧ k ≤ s.size ∧ Row wr (Gr No w wr) b (escs (s.data.toList.take k)) ∧ Fr No w wr) (fun _ i _ => s.size - (intOf i).toNat)
  case atStart => exact ⟨0, rfl, Nat.zero_le _, by simpa [escs_nil] using Row.nil _ _, Fr.refl _ _⟩
  case round =>
    obtain ⟨k, rfl, hk, hrow, hfr⟩ := hrel
    have hlen := escs_take_len s.data.toList k (by omega)
    by_cases h1 : k < s.size
    · have et := escs_take s.data.toList k (by rw [ba_len]; exact h1)
      rw [ba_getD s k h1] at et
      obtain ⟨v1, w1, hrun, hrow1, hfr1⟩ := hrow.push gr_lt s[k] (by omega)
      have hrow1 := hrow1.join hfr.size hfr1.size
      have hfr1 := hfr.then_ hfr1 fun k hk h => Gr.old hk h
      by_cases h2 : s[k] = 0
      · have h2' : s[k].toNat = 0 := by rw [h2]; rfl
        obtain ⟨v2, w2, hrun2, hrow2, hfr2⟩ := hrow1.push gr_lt 255 (by simp; omega)
        rw [esc, if_pos h2] at et
        rw [h2', show ((0 : Nat) : Int) = 0 from rfl] at hrun
        rw [show (((255 : UInt8).toNat : Nat) : Int) = 255 from rfl] at hrun2
        have HR1 := Lib.hid hrun
        have HR2 := Lib.hid hrun2
        have hrow2 := hrow2.join hfr1.size hfr2.size
        rw [h2, List.append_assoc] at hrow2
        have HW := Lib.hid (show Row w2 (Gr No w w2) v2 (escs (s.data.toList.take (k + 1))) from et ▸ hrow2)
        have HF := Lib.hid (hfr1.then_ hfr2 fun k hk h => Gr.old hk h)
        clear hrun hrun2 hrow hrow1 hrow2 hfr hfr1 hfr2 et hlen
        go_wp2_with (at_builtin; first | refine wpList_append_run rfl _ _ 51 rfl rfl rfl HR1.out ?_ | refine wpList_append_run rfl _ _ 51 rfl rfl rfl HR2.out ?_)
        go_roundw
        case rel => exact ⟨k + 1, by simp, by omega, HW.out, HF.out⟩
        case measure => simp [intOf]; omega
      · have h2' : ¬ s[k].toNat = 0 := fun e => h2 (UInt8.toNat_inj.1 e)
        rw [esc, if_neg h2] at et
        have HR1 := Lib.hid hrun
        have HW := Lib.hid (show Row w1 (Gr No w w1) v1 (escs (s.data.toList.take (k + 1))) from et ▸ hrow1)
        have HF := Lib.hid hfr1
        clear hrun hrow hrow1 hfr hfr1 et hlen
        go_wp2_with (at_builtin; refine wpList_append_run rfl _ _ 51 rfl rfl rfl HR1.out ?_)
        go_roundw
        case rel => exact ⟨k + 1, by simp, by omega, HW.out, HF.out⟩
        case measure => simp [intOf]; omega
    · have hk2 : k = s.size := by omega
      subst hk2
      obtain ⟨v1, w1, hrun, hrow1, hfr1⟩ := hrow.push2 gr_lt 0 1 (by omega)
      rw [show (((0 : UInt8).toNat : Nat) : Int) = 0 from rfl, show (((1 : UInt8).toNat : Nat) : Int) = 1 from rfl] at hrun
      have hrow1 := hrow1.join hfr.size hfr1.size
      rw [List.take_of_length_le (by rw [ba_len]; omega)] at hrow1
      have HR1 := Lib.hid hrun
      have HN : Hid (NewRow (escs s.data.toList ++ [0, 1]) w (.returned v1) w1) := Lib.hid ⟨_, rfl, hrow1, hfr.then_ hfr1 fun k hk h => Gr.old hk h⟩
      clear hrun hrow hrow1 hfr hfr1 hlen
      go_wp2_with (at_builtin; refine wpList_append_run rfl _ _ 51 rfl rfl rfl HR1.out ?_)
      go_ret
      exact HN.out

/-- A row comes back: what it was, and more. -/
def MoreRow (S : Nat → Prop) (l : List UInt8) (w : World) (e : Ending) (w' : World) : Prop := ∃ v, e = .returned v ∧ Row w' (Gr S w w') v l ∧ Fr S w w'
theorem six_take (n i : Nat) (h : i < 6) : (six n).take (i + 1) = (six n).take i ++ [(six n).getD i 0] := by
  rw [List.take_add_one]
  congr 1
  simp [List.getD, List.getElem?_eq_getElem (show i < (six n).length from h)]

theorem six_at (n j : Nat) (hn : n ≤ 1099511627776) (h : j < 6) : (j = 0 ∧ (((six n).getD j 0).toNat : Int) = (n : Int) / 1099511627776) ∨ (j = 1 ∧ (((six n).getD j 0).toNat : Int) = (n : Int) / 4294967296 % 256) ∨ (j = 2 ∧ (((six n).getD j 0).toNat : Int) = (n : Int) / 16777216 % 256) ∨
    (j = 3 ∧ (((six n).getD j 0).toNat : Int) = (n : Int) / 65536 % 256) ∨ (j = 4 ∧ (((six n).getD j 0).toNat : Int) = (n : Int) / 256 % 256) ∨ (j = 5 ∧ (((six n).getD j 0).toNat : Int) = (n : Int) % 256) := by
  have hc : j = 0 ∨ j = 1 ∨ j = 2 ∨ j = 3 ∨ j = 4 ∨ j = 5 := by omega
  rcases hc with rfl | rfl | rfl | rfl | rfl | rfl
  · refine .inl ⟨rfl, ?_⟩
    show ((UInt8.ofNat (n / 1099511627776)).toNat : Int) = _
    rw [toNat_ofNat8]; omega
  · refine .inr (.inl ⟨rfl, ?_⟩)
    show ((UInt8.ofNat (n / 4294967296)).toNat : Int) = _
    rw [toNat_ofNat8]; omega
  · refine .inr (.inr (.inl ⟨rfl, ?_⟩))
    show ((UInt8.ofNat (n / 16777216)).toNat : Int) = _
    rw [toNat_ofNat8]; omega
  · refine .inr (.inr (.inr (.inl ⟨rfl, ?_⟩)))
    show ((UInt8.ofNat (n / 65536)).toNat : Int) = _
    rw [toNat_ofNat8]; omega
  · refine .inr (.inr (.inr (.inr (.inl ⟨rfl, ?_⟩))))
    show ((UInt8.ofNat (n / 256)).toNat : Int) = _
    rw [toNat_ofNat8]; omega
  · refine .inr (.inr (.inr (.inr (.inr ⟨rfl, ?_⟩))))
    show ((UInt8.ofNat n).toNat : Int) = _
    rw [toNat_ofNat8]; omega
set_option maxRecDepth 20000 in
set_option maxHeartbeats 1600000 in
theorem putTail_c (S : Nat → Prop) (a : Option Addr) (len cap : Nat) (l : List UInt8) (n : Nat) (q k : Int) (w : World) (hS : ∀ k, S k → k < w.heap.size) (hl : l.length ≤ 10000) (hrow : Row w S (.slice a len cap) l)
    (hq : 1099511627776 - q = (n : Int)) (hn : n ≤ 1099511627776) (h5 : 1 ≤ k) (h6 : k ≤ 3) :
    Calls Tryd.prog 66 #[.slice a len cap, .int .i64 q, .int .i64 k] w (MoreRow S (l ++ (six n ++ [UInt8.ofNat (255 - k).toNat])) w) := by
  have HROW := Lib.hid hrow
  clear hrow
  go_enter Tryd.func66, Tryd.ntmps66
  go_wp2_with fail
  go_loopw [0, 11] (fun b i wr => ∃ j : Nat, i = .int .i64 j ∧ j ≤ 6 ∧ Row wr (Gr S w wr) b (l ++ (six n).take j) ∧ Fr S w wr) (fun _ i _ => 6 - (intOf i).toNat)
  case atStart => exact ⟨0, rfl, by omega, by simpa using HROW.out.sub fun k _ h => .inl h, Fr.refl _ _⟩
  case round =>
    obtain ⟨j, rfl, hj, hrow, hfr⟩ := hrel
    have hgl : ∀ k, Gr S w wr k → k < wr.heap.size := fun k hk => by
      rcases hk with hk | hk
      · exact Nat.lt_of_lt_of_le (hS k hk) hfr.size
      · exact hk.2
    by_cases h1 : j < 6
    · obtain ⟨v1, w1, hrun, hrow1, hfr1⟩ := hrow.push hgl ((six n).getD j 0) (by simp [six_length]; omega)
      have hrow1 := hrow1.join hfr.size hfr1.size
      rw [List.append_assoc, ← six_take n j h1] at hrow1
      have HR1 := Lib.hid hrun
      have HW := Lib.hid hrow1
      have HF := Lib.hid (hfr.then_ hfr1 fun k hk h => Gr.old hk h)
      clear hrun hrow hrow1 hfr hfr1
      have hc : (j = 0 ∧ (((six n).getD j 0).toNat : Int) = (n : Int) / 1099511627776) ∨ (j = 1 ∧ (((six n).getD j 0).toNat : Int) = (n : Int) / 4294967296 % 256) ∨ (j = 2 ∧ (((six n).getD j 0).toNat : Int) = (n : Int) / 16777216 % 256) ∨
          (j = 3 ∧ (((six n).getD j 0).toNat : Int) = (n : Int) / 65536 % 256) ∨ (j = 4 ∧ (((six n).getD j 0).toNat : Int) = (n : Int) / 256 % 256) ∨ (j = 5 ∧ (((six n).getD j 0).toNat : Int) = (n : Int) % 256) := six_at n j hn h1
      rcases hc with ⟨rfl, hc⟩ | ⟨rfl, hc⟩ | ⟨rfl, hc⟩ | ⟨rfl, hc⟩ | ⟨rfl, hc⟩ | ⟨rfl, hc⟩
      all_goals
        rw [hc] at HR1
        clear hc
        go_wp2_with (at_builtin; refine wpList_append_run rfl _ _ 51 rfl rfl rfl HR1.out ?_)
        go_roundw
        case rel => exact ⟨_, rfl, by decide, HW.out, HF.out⟩
        case measure => simp [intOf]
    · have hj6 : j = 6 := by omega
      subst hj6
      obtain ⟨v1, w1, hrun, hrow1, hfr1⟩ := hrow.push hgl (UInt8.ofNat (255 - k).toNat) (by simp [six_length]; omega)
      have hrow1 := hrow1.join hfr.size hfr1.size
      rw [List.take_of_length_le (by rw [six_length]; omega), List.append_assoc] at hrow1
      rw [toNat_ofNat8, show (((255 - k).toNat % 256 : Nat) : Int) = 255 - k by omega] at hrun
      have HR1 := Lib.hid hrun
      have HN : Hid (MoreRow S (l ++ (six n ++ [UInt8.ofNat (255 - k).toNat])) w (.returned v1) w1) := Lib.hid ⟨_, rfl, hrow1, hfr.then_ hfr1 fun k hk h => Gr.old hk h⟩
      clear hrun hrow hrow1 hfr hfr1
      go_wp2_with (at_builtin; refine wpList_append_run rfl _ _ 51 rfl rfl rfl HR1.out ?_)
      go_ret
      exact HN.out

end Go.Proofs.YtihahckjcedceaaDoor

/- Layer 7, the program's own device: one zone put anew in memory. -/
namespace Go.Proofs.YtihahckjcedceaaDoor
set_option linter.unusedVariables false
open Go.RowKit

theorem zset_same {α : Type} {l : List α} {i : Nat} {v : α} (h : l[i]? = some v) : l.set i v = l := by
  apply List.ext_getElem?
  intro j
  rw [List.getElem?_set]
  split
  · rename_i e
    subst e
    split
    · rw [h]
    · rename_i h2
      rw [List.getElem?_eq_none (by omega)]
  · rfl
theorem zsC_012 (xs : List Zm) (k : Nat) (x : Zm) : (zsC (xs.set k x)).toArray = (((zsC xs).toArray.setIfInBounds (k * 3) (.slice x.a x.z.b.length x.c)).setIfInBounds (k * 3 + 1) (.int .i64 (x.z.f : Int))).setIfInBounds (k * 3 + 2) (.int .i64 (x.z.s : Int)) := by
  rw [zsC_set]
  simp
theorem zsC_102 (xs : List Zm) (k : Nat) (x : Zm) : (zsC (xs.set k x)).toArray = (((zsC xs).toArray.setIfInBounds (k * 3 + 1) (.int .i64 (x.z.f : Int))).setIfInBounds (k * 3) (.slice x.a x.z.b.length x.c)).setIfInBounds (k * 3 + 2) (.int .i64 (x.z.s : Int)) := by
  rw [zsC_set, List.set_comm _ _ (show k * 3 ≠ k * 3 + 1 by omega)]
  simp
theorem zsC_10 {xs : List Zm} {k : Nat} {x : Zm} (hx : xs[k]? = some x) (x' : Zm) (hs : x'.z.s = x.z.s) : (zsC (xs.set k x')).toArray = ((zsC xs).toArray.setIfInBounds (k * 3 + 1) (.int .i64 (x'.z.f : Int))).setIfInBounds (k * 3) (.slice x'.a x'.z.b.length x'.c) := by
  obtain ⟨h0, h1, h2⟩ := zsC_get xs k x hx
  rw [zsC_set, hs, List.set_comm _ _ (show k * 3 ≠ k * 3 + 1 by omega), List.set_comm _ _ (show k * 3 ≠ k * 3 + 2 by omega), List.set_comm _ _ (show k * 3 + 1 ≠ k * 3 + 2 by omega), zset_same h2]
  simp
theorem zsC_02 {xs : List Zm} {k : Nat} {x : Zm} (hx : xs[k]? = some x) (x' : Zm) (hs : x'.z.f = x.z.f) : (zsC (xs.set k x')).toArray = ((zsC xs).toArray.setIfInBounds (k * 3) (.slice x'.a x'.z.b.length x'.c)).setIfInBounds (k * 3 + 2) (.int .i64 (x'.z.s : Int)) := by
  obtain ⟨h0, h1, h2⟩ := zsC_get xs k x hx
  rw [zsC_set, hs, List.set_comm _ _ (show k * 3 ≠ k * 3 + 1 by omega), zset_same h1]
  simp
theorem zsC_2 {xs : List Zm} {k : Nat} {x : Zm} (hx : xs[k]? = some x) (s : Nat) : (zsC (xs.set k { x with z := { x.z with s := s } })).toArray = (zsC xs).toArray.setIfInBounds (k * 3 + 2) (.int .i64 (s : Int)) := by
  obtain ⟨h0, h1, h2⟩ := zsC_get xs k x hx
  rw [zsC_set]
  show ((((zsC xs).set (k * 3) (.slice x.a x.z.b.length x.c)).set (k * 3 + 1) (.int .i64 (x.z.f : Int))).set (k * 3 + 2) (.int .i64 (s : Int))).toArray = _
  rw [zset_same h0, zset_same h1]
  simp
theorem zsC_1 {xs : List Zm} {k : Nat} {x : Zm} (hx : xs[k]? = some x) (f : Nat) : (zsC (xs.set k { x with z := { x.z with f := f } })).toArray = (zsC xs).toArray.setIfInBounds (k * 3 + 1) (.int .i64 (f : Int)) := by
  obtain ⟨h0, h1, h2⟩ := zsC_get xs k x hx
  rw [zsC_set]
  show ((((zsC xs).set (k * 3) (.slice x.a x.z.b.length x.c)).set (k * 3 + 1) (.int .i64 (f : Int))).set (k * 3 + 2) (.int .i64 (x.z.s : Int))).toArray = _
  rw [zset_same h0, List.set_comm _ _ (show k * 3 + 1 ≠ k * 3 + 2 by omega), zset_same h2]
  simp
/-- The zone's own block. -/
def Own (x : Zm) : Nat → Prop := fun b => x.g = some b
theorem DzAt.own {w : World} {d zb : Nat} {xs : List Zm} {m : Dev} {ar : Bool} {lf : Int} (h : DzAt w d zb xs m ar lf) {k : Nat} {x : Zm} (hx : xs[k]? = some x) : ¬ Own x d ∧ ¬ Own x zb ∧ ∀ b, Own x b → b < w.heap.size :=
  ⟨fun e => ((h.row k x hx).2 d e).1 rfl, fun e => ((h.row k x hx).2 zb e).2 rfl, fun b hb => ((h.row k x hx).block hb).2⟩
/-- ONE ZONE ANEW: its row may have moved ahead (w to w1), then the zones' block has turned (w1 to w'). -/
theorem DzAt.put {w w1 w' : World} {d zb : Nat} {xs : List Zm} {m : Dev} {ar : Bool} {lf : Int} (h : DzAt w d zb xs m ar lf) {k : Nat} {x x' : Zm} (hx : xs[k]? = some x) (f1 : Fr (Own x) w w1)
    (hr : Row w1 (fun b => Own x b ∨ w.heap.size ≤ b) (.slice x'.a x'.z.b.length x'.c) x'.z.b) (f2 : Fr (One zb) w1 w') (hz : At w' zb 95 (zsC (xs.set k x')).toArray) :
    DzAt w' d zb (xs.set k x') (setZ m k x'.z) ar lf := by
  obtain ⟨od, oz, ol⟩ := h.own hx
  have hk : k < xs.length := by
    rcases Nat.lt_or_ge k xs.length with h' | h'
    · exact h'
    · rw [List.getElem?_eq_none h'] at hx; cases hx
  refine ⟨?_, hz, h.ne, ?_, h.arm, fun i y hy => ?_, fun i j y y' b hy hy' hb hb' => ?_⟩
  · rw [show (setZ m k x'.z).zs.length = m.zs.length by simp [setZ]]
    exact (h.hd.keep f1 od).keep f2 (fun e => h.ne (show d = zb from e))
  · show (xs.set k x').map Zm.z = m.zs.set _ _
    rw [List.map_set, h.mz]
    rfl
  · rw [List.getElem?_set] at hy
    split at hy
    · rename_i e
      subst e
      obtain rfl := Option.some.inj hy
      have hn : ∀ b, (Own x b ∨ w.heap.size ≤ b) → b ≠ d ∧ b ≠ zb := fun b hb => by
        rcases hb with hb | hb
        · exact (h.row _ x hx).2 b hb
        · have := h.hd.lt
          have := h.hz.lt
          omega
      exact (hr.keep f2 (fun b hb e => (hn b hb).2 e)).sub fun b _ hb => hn b hb
    · rename_i e
      have hry := h.row i y hy
      have : Row w (Own y) (.slice y.a y.z.b.length y.c) y.z.b := ⟨hry.1, fun b hb => hb⟩
      have r1 := this.keep f1 (fun b hb hb' => e (h.two k i x y b hx hy hb' hb))
      exact (r1.keep f2 (fun b hb e => ((hry.2 b hb).2 e))).sub fun b _ hb => hry.2 b hb
  · rw [List.getElem?_set] at hy hy'
    split at hy
    · rename_i e
      subst e
      split at hy'
      · rename_i e
        exact e
      · rename_i e
        obtain rfl := Option.some.inj hy
        rcases hr.2 b hb with h3 | h3
        · exact h.two k j x y' b hx hy' h3 hb'
        · exact absurd ((h.own hy').2.2 b hb') (by omega)
    · rename_i e
      split at hy'
      · rename_i e'
        subst e'
        obtain rfl := Option.some.inj hy'
        rcases hr.2 b hb' with h3 | h3
        · exact h.two i k y x b hy hx hb h3
        · exact absurd ((h.own hy).2.2 b hb) (by omega)
      · exact h.two i j y y' b hy hy' hb hb'
theorem Dz.put {w w1 w' : World} {d : Nat} {F : Nat → Prop} {m : Dev} {zb : Nat} {xs : List Zm} {ar : Bool} {lf : Int} (h0 : ∀ k, F k → k < w.heap.size) (h : DzAt w d zb xs m ar lf) (hF : F d ∧ F zb ∧ ∀ x ∈ xs, ∀ k, x.g = some k → F k)
    {k : Nat} {x x' : Zm} (hx : xs[k]? = some x) (f1 : Fr (Own x) w w1) (hr : Row w1 (fun b => Own x b ∨ w.heap.size ≤ b) (.slice x'.a x'.z.b.length x'.c) x'.z.b) (f2 : Fr (One zb) w1 w') (hz : At w' zb 95 (zsC (xs.set k x')).toArray) :
    Dz w' d (Gr F w w') (setZ m k x'.z) ∧ Fr F w w' ∧ ∀ i : Nat, w'.cell? ⟨d, i, none⟩ = w.cell? ⟨d, i, none⟩ := by
  have hsz : w.heap.size ≤ w'.heap.size := Nat.le_trans f1.size f2.size
  refine ⟨⟨fun b hb => ?_, zb, xs.set k x', ar, lf, h.put hx f1 hr f2 hz, .inl hF.1, .inl hF.2.1, fun y hy b hb => ?_⟩, (f1.sub fun b _ hb => hF.2.2 x (List.mem_of_getElem? hx) b hb).then_ f2 fun b _ hb => by rw [show b = zb from hb]; exact hF.2.1, fun i => (World.cell?_of_block (f2.block d (Nat.lt_of_lt_of_le h.hd.lt f1.size) (fun e => h.ne (show d = zb from e)))).trans (World.cell?_of_block (f1.block d h.hd.lt (h.own hx).1))⟩
  · rcases hb with hb | hb
    · exact Nat.lt_of_lt_of_le (h0 b hb) hsz
    · exact hb.2
  · rcases List.mem_or_eq_of_mem_set hy with h1 | rfl
    · exact .inl (hF.2.2 y h1 b hb)
    · rcases hr.2 b hb with h3 | h3
      · exact .inl (hF.2.2 x (List.mem_of_getElem? hx) b h3)
      · exact .inr ⟨h3, Nat.lt_of_lt_of_le (hr.block hb).2 f2.size⟩
end Go.Proofs.YtihahckjcedceaaDoor
