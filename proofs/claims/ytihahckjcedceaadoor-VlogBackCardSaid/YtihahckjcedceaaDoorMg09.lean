/-
  Texts of layer 14 and of what it stands on, one behind the other.
-/
import Derived.Test.YtihahckjcedceaaDoorMg03
import Derived.Test.YtihahckjcedceaaDoorMg07
import Derived.WalkKit
import Derived.Handy
import Derived.Lib.Hide
import Derived.Lib.LaidTab
import Derived.Deep.Slices
import Derived.Deep.Fields
import Derived.Test.YtihahckjcedceaaDoorMg04
import Derived.BigQuiet
import Derived.Lib.SlBytesConst
import Derived.Deep.WholeRow
import Derived.Laws.MakeOwn

/- A row of bytes of the call's own: made anew, grown, appended to, as it is used. -/
namespace Go.Proofs.YtihahckjcedceaaDoor
set_option linter.unusedVariables false
open Go.RowKit

theorem Row.grow {w w1 w2 : World} {v : Value} {l : List UInt8} (h : Row w1 (Gr No w w1) v l) (f : Fr No w1 w2) : Row w2 (Gr No w w2) v l :=
  (h.keep f fun _ _ h => h).sub fun x _ hx => by
    rcases hx with hx | hx
    · exact hx.elim
    · exact .inr ⟨hx.1, Nat.lt_of_lt_of_le hx.2 f.size⟩
theorem Row.more {w0 w : World} {v : Value} {l : List UInt8} (h : Row w (Gr No w0 w) v l) (f : Fr No w0 w) (a : Option Addr) (m c : Nat) (news : List UInt8) (hm : news.length = m) (hr : Rd w a news) (hb : l.length + m ≤ 140737488355328) :
    ∃ v' w', (Builtin.append_ #[51, 51] 51 #[v, .slice a m c]).run Tryd.prog w = .ok v' w' ∧ Row w' (Gr No w0 w') v' (l ++ news) ∧ Fr No w0 w' := by
  obtain ⟨v', w', h1, h2, h3⟩ := h.append a m c news hm hr hb
  exact ⟨v', w', h1, h2.join f.size h3.size, f.then_ h3 fun k hk h => Gr.old hk h⟩
theorem Row.more1 {w0 w : World} {v : Value} {l : List UInt8} (h : Row w (Gr No w0 w) v l) (f : Fr No w0 w) (c : UInt8) (z : Int) (hz : (c.toNat : Int) = z) (hb : l.length < 140737488355328) :
    ∃ v' w', (Builtin.append_ #[51, 51] 51 #[v, .slice (some ⟨w.heap.size, 0, none⟩) 1 1]).run Tryd.prog (w.alloc (.cells #[.int .u8 z] 5)) = .ok v' w' ∧ Row w' (Gr No w0 w') v' (l ++ [c]) ∧ Fr No w0 w' := by
  subst hz
  obtain ⟨v', w', h1, h2, h3⟩ := h.push (fun k hk => hk.elim (fun h => h.elim) fun h => h.2) c hb
  exact ⟨v', w', h1, h2.join f.size h3.size, f.then_ h3 fun k hk h => Gr.old hk h⟩
theorem row_new (w : World) (l : List UInt8) (hl : l.length ≤ maxLen) : Row (w.alloc (.cells (l.map byt).toArray 5)) (Gr No w (w.alloc (.cells (l.map byt).toArray 5))) (.slice (some ⟨w.heap.size, 0, none⟩) l.length l.length) l :=
  ⟨⟨by simp, .inr ⟨w.heap.size, l.length, _, rfl, Nat.zero_le _, heap_alloc_new w _, Nat.le_refl _, hl, by simp, by simp [List.take_of_length_le]⟩⟩, fun k hk => by
    have : w.heap.size = k := Option.some.inj hk
    subst this
    exact .inr ⟨Nat.le_refl _, by simp⟩⟩
end Go.Proofs.YtihahckjcedceaaDoor

/- Contracts of package sum's functions and of the document's answers for them, over this seat's translation: each returns what the plain functions of Crc say, and leaves memory as it was. -/
namespace Go.Proofs.YtihahckjcedceaaDoor
set_option linter.unusedVariables false
open Go.RowKit

/-- The table's cells. -/
def Tab (w : World) : Prop := ∀ i, i < 16 → w.cell? ⟨0, i, none⟩ = some (.int .u32 ((Crc.nibAt i : Nat) : Int))

theorem take_snoc (l : List UInt8) (k : Nat) (x : UInt8) (h : k < l.length) (hx : l.getD k 0 = x) : l.take (k + 1) = l.take k ++ [x] := by
  rw [List.take_succ_eq_append_getElem h]
  have : l.getD k 0 = l[k] := by simp [h]
  rw [← hx, this]

/-! How the walk spells the steps on 32 bits. -/
theorem bv_lt (c : BitVec 32) : (c.toNat : Int) < 4294967296 := by
  have := c.isLt
  omega
theorem bv_ofInt (c : BitVec 32) : BitVec.ofInt 32 (c.toNat : Int) = c := by
  rw [BitVec.ofInt_natCast, BitVec.ofNat_toNat, BitVec.setWidth_eq]
theorem wrap_bv (c : BitVec 32) : IntKind.u32.wrap (c.toNat : Int) = (c.toNat : Int) := IntWalk.u32_in _ (by have := bv_lt c; omega)
theorem xor_bv (a b : BitVec 32) : bits .xor .u32 (a.toNat : Int) (b.toNat : Int) = ((a ^^^ b).toNat : Int) := by
  show IntKind.u32.wrap ((BitVec.ofInt 32 (a.toNat : Int) ^^^ BitVec.ofInt 32 (b.toNat : Int)).toNat : Int) = _
  rw [bv_ofInt, bv_ofInt]
  exact wrap_bv _
theorem not_bv (a : BitVec 32) : bits .xor .u32 IntKind.u32.max (a.toNat : Int) = ((~~~a).toNat : Int) := by
  have e : IntKind.u32.max = ((BitVec.allOnes 32).toNat : Int) := by decide +kernel
  rw [e, xor_bv, BitVec.allOnes_xor]
theorem xor_byte (a : BitVec 32) (x : UInt8) : bits .xor .u32 (a.toNat : Int) (x.toNat : Int) = ((a ^^^ BitVec.ofNat 32 x.toNat).toNat : Int) := by
  have hx := x.toNat_lt
  have e : (x.toNat : Int) = ((BitVec.ofNat 32 x.toNat).toNat : Int) := by
    rw [BitVec.toNat_ofNat, Nat.mod_eq_of_lt (by omega)]
  rw [e, xor_bv]
theorem and15 (a : BitVec 32) : bits .and .u32 (a.toNat : Int) 15 = ((a.toNat % 16 : Nat) : Int) := by
  show IntKind.u32.wrap ((BitVec.ofInt 32 (a.toNat : Int) &&& BitVec.ofInt 32 15).toNat : Int) = _
  have e : BitVec.ofInt 32 15 = 15#32 := by decide
  rw [bv_ofInt, e, BitVec.toNat_and]
  have e2 : a.toNat &&& (15#32).toNat = a.toNat % 16 := Nat.and_two_pow_sub_one_eq_mod a.toNat 4
  rw [e2]
  exact IntWalk.u32_in _ (by omega)
theorem four_bv (a : BitVec 32) : bits .xor .u32 ((a.toNat : Int) / (16 : Int)) ((Crc.nibAt (a.toNat % 16) : Nat) : Int) = ((Crc.four a).toNat : Int) := by
  have h1 : ((a.toNat : Int) / (16 : Int)) = ((a >>> 4).toNat : Int) := by
    have e : (a >>> 4).toNat = a.toNat / 16 := by rw [BitVec.toNat_ushiftRight, Nat.shiftRight_eq_div_pow]
    rw [e]
    omega
  have h2 : ((Crc.nibAt (a.toNat % 16) : Nat) : Int) = ((BitVec.ofNat 32 (Crc.nibAt (a.toNat % 16))).toNat : Int) := by
    rw [BitVec.toNat_ofNat, Nat.mod_eq_of_lt (Crc.nibAt_lt _ (by omega))]
  rw [h1, h2, xor_bv, Crc.four_tab]
  rfl

set_option maxHeartbeats 400000 in
theorem more_c (c : BitVec 32) (a : Option Addr) (len cap : Nat) (l : List UInt8) (w : World) (hl : l.length = len) (hm : len ≤ 140737488351232) (hr : Rd w a l) (ht : Tab w) :
    Calls Tryd.prog 92 #[.int .u32 (c.toNat : Int), .slice a len cap] w fun e w' => e = .returned (.int .u32 ((Crc.more c l).toNat : Int)) ∧ w = w' := by
  have hc := c.isLt
  have H := Lib.hid hl
  clear hl
  obtain ⟨d, hd⟩ : ∃ d, d = ~~~c := ⟨_, rfl⟩
  have n1 := not_bv c
  rw [← hd] at n1
  have Hd := Lib.hid hd
  clear hd
  go_enter Tryd.func92, Tryd.ntmps92
  go_wp2_with fail
  clear n1
  go_loop [0, 11] (fun t i => ∃ (k : Nat) (s : BitVec 32), k ≤ len ∧ i = .int .i64 k ∧ t = .int .u32 (s.toNat : Int) ∧ s = Crc.run d (l.take k)) (fun _ i => len - (intOf i).toNat)
  case atStart => exact ⟨0, _, Nat.zero_le _, rfl, rfl, rfl⟩
  case round =>
    obtain ⟨k, s, hk, rfl, rfl, hs⟩ := hrel
    have Hs := Lib.hid hs
    clear hs
    by_cases hlt : k < len
    · obtain ⟨b, o, rfl, hcell⟩ := hr (by have := H.out; omega)
      have hx := hcell k (by have := H.out; omega)
      clear hcell hr
      have hxl := (l.getD k 0).toNat_lt
      generalize hgx : l.getD k 0 = x at hx hxl
      have Hx := Lib.hid hgx
      clear hgx
      obtain ⟨t, et⟩ : ∃ t, t = s ^^^ BitVec.ofNat 32 x.toNat := ⟨_, rfl⟩
      obtain ⟨u, eu⟩ : ∃ u, u = Crc.four t := ⟨_, rfl⟩
      obtain ⟨v, ev⟩ : ∃ v, v = Crc.four u := ⟨_, rfl⟩
      have e1 := xor_byte s x
      rw [← et] at e1
      have e2 := and15 t
      have e3 := four_bv t
      rw [← eu] at e3
      have e4 := and15 u
      have e5 := four_bv u
      rw [← ev] at e5
      have c1 := ht (t.toNat % 16) (by omega)
      have c2 := ht (u.toNat % 16) (by omega)
      have Het := Lib.hid et
      have Heu := Lib.hid eu
      have Hev := Lib.hid ev
      have htl := t.isLt
      have hul := u.isLt
      have b1 : t.toNat % 16 < 16 := by omega
      have b2 : u.toNat % 16 < 16 := by omega
      clear et eu ev ht
      go_wp2_with fail
      go_round
      case rel =>
        refine ⟨k + 1, v, by omega, by go_num, rfl, ?_⟩
        have e : l.take (k + 1) = l.take k ++ [x] := take_snoc l k x (by have := H.out; omega) Hx.out
        rw [e, Crc.run_snoc, ← Hs.out, Hev.out, Heu.out, Het.out]
        rfl
      case measure => simp [intOf]; omega
    · have hk' : k = len := by omega
      have Hk := Lib.hid hk'
      clear hk'
      obtain ⟨r, er⟩ : ∃ r, r = ~~~s := ⟨_, rfl⟩
      have n2 := not_bv s
      rw [← er] at n2
      have Her := Lib.hid er
      clear er
      go_wp2_with fail
      go_ret
      refine ⟨?_, rfl⟩
      have e : r = Crc.more c l := by
        have h1 : l.take k = l := List.take_of_length_le (by have := H.out; have := Hk.out; omega)
        rw [Her.out, Hs.out, h1, Hd.out]
        rfl
      rw [e]
      rfl

set_option maxHeartbeats 400000 in
theorem of_c (a : Option Addr) (len cap : Nat) (l : List UInt8) (w : World) (hl : l.length = len) (hm : len ≤ 140737488351232) (hr : Rd w a l) (ht : Tab w) :
    Calls Tryd.prog 91 #[.slice a len cap] w fun e w' => e = .returned (.int .u32 ((Crc.of l).toNat : Int)) ∧ w = w' := by
  have H := Lib.hid (more_c 0#32 a len cap l w hl hm hr ht)
  clear hl hr ht
  go_enter Tryd.func91, Tryd.ntmps91
  go_wp2_with fail
  refine (show Calls _ _ _ _ _ from H.out).mono ?_
  rintro e w' ⟨rfl, rfl⟩
  go_wp2_with fail
  go_ret
  exact ⟨rfl, rfl⟩

end Go.Proofs.YtihahckjcedceaaDoor

/- Contract of package sum's Mask; the table behind what is new. -/
namespace Go.Proofs.YtihahckjcedceaaDoor
set_option linter.unusedVariables false
open Go.RowKit

theorem Tab.below {w w' : World} {B : Nat} (h : Tab w) (hb : Below B w w') (hB : w.heap.size ≤ B) : Tab w' := fun i hi => by
  have h1 := h i hi
  exact (hb.cell (Nat.lt_of_lt_of_le (cell_block h1) hB)).trans h1

def mk (c : Int) : Int := (c / 32768 + c % 32768 * 131072 + 2726488792) % 4294967296
theorem or_add (a b : Nat) (k : Nat) (ha : a < 2 ^ k) : a ||| b * 2 ^ k = a + b * 2 ^ k := by
  have h := Nat.shiftLeft_add_eq_or_of_lt ha b
  rw [Nat.shiftLeft_eq] at h
  rw [Nat.or_comm, Nat.add_comm]
  exact h.symm
theorem or_mask (c : Int) (h0 : 0 ≤ c) (h1 : c ≤ 4294967295) : bits .or .u32 (c / 32768) (c * 131072 % 4294967296) = c / 32768 + c % 32768 * 131072 := by
  obtain ⟨n, rfl⟩ := Int.eq_ofNat_of_zero_le h0
  rw [u32_or _ _ (by omega) (by omega) (by omega) (by omega)]
  have e1 : ((n : Int) / 32768).toNat = n / 32768 := by omega
  have e2 : ((n : Int) * 131072 % 4294967296).toNat = n % 32768 * 2 ^ 17 := by omega
  have e3 : n / 32768 < 2 ^ 17 := by omega
  rw [e1, e2, or_add _ _ 17 e3]
  omega
set_option maxHeartbeats 400000 in
theorem mask_c (c : Int) (w : World) (h0 : 0 ≤ c) (h1 : c ≤ 4294967295) :
    Calls Tryd.prog 90 #[.int .u32 c] w fun e w' => e = .returned (.int .u32 (mk c)) ∧ w = w' := by
  have e := or_mask c h0 h1
  go_enter Tryd.func90, Tryd.ntmps90
  go_wp2_with fail
  go_ret
  exact ⟨rfl, rfl⟩
end Go.Proofs.YtihahckjcedceaaDoor

/- Arguments opened: bytes; and that they read on as long as what was there stays. -/
namespace Go.Proofs.YtihahckjcedceaaDoor
set_option linter.unusedVariables false
open Go.ChangeShapes Go.WideShapes Go.ChangeAt Go.RowKit Go.Deep

theorem list_of {α : Type} {p : Nat → α → Prop} : ∀ (m : Nat), (∀ i, i < m → ∃ x, p i x) → ∃ l : List α, l.length = m ∧ ∀ i x, l[i]? = some x → p i x := by
  intro m
  induction m with
  | zero => exact fun _ => ⟨[], rfl, fun i x h => by simp at h⟩
  | succ m ih =>
    intro h
    obtain ⟨l, hl, hp⟩ := ih fun i hi => h i (by omega)
    obtain ⟨x, hx⟩ := h m (by omega)
    refine ⟨l ++ [x], by simp [hl], fun i y hy => ?_⟩
    rcases Nat.lt_or_ge i l.length with h1 | h1
    · rw [List.getElem?_append_left h1] at hy
      exact hp i y hy
    · rw [List.getElem?_append_right h1] at hy
      have h2 : i - l.length = 0 := by
        rcases Nat.eq_zero_or_pos (i - l.length) with h0 | h0
        · exact h0
        · rw [List.getElem?_eq_none (by simp; omega)] at hy; cases hy
      rw [h2] at hy
      have : x = y := by simpa using hy
      subst this
      have : i = m := by omega
      subst this
      exact hx

theorem Rd.keep {w w' : World} {a : Option Addr} {l : List UInt8} (h : Rd w a l) (f : Fr No w w') : Rd w' a l := ((In.of_rd h).keep f fun _ _ h => h).rd
theorem add_plain (b o i : Nat) : (⟨b, o, none⟩ : Addr).add i = ⟨b, o + i, none⟩ := by unfold Addr.add; split <;> simp_all

/-- Numbers. -/
def Ints (w : World) (a : Option Addr) (l : List Int) : Prop := 0 < l.length → ∃ b o, a = some ⟨b, o, none⟩ ∧ ∀ i x, l[i]? = some x → w.cell? ⟨b, o + i, none⟩ = some (.int .i64 x) ∧ (Lit.int .i64 x).wf = true
theorem Ints.keep {w w' : World} {a : Option Addr} {l : List Int} (h : Ints w a l) (f : Fr No w w') : Ints w' a l := fun hl => by
  obtain ⟨b, o, ha, hx⟩ := h hl
  exact ⟨b, o, ha, fun i x hi => ⟨f.cell (hx i x hi).1 (fun h => h), (hx i x hi).2⟩⟩

section
variable {H : Type} {enc : TypeId × Value → H} {w : World} {base : Nat} {spare : Nat → Bool} {held : Bool}
theorem cellsU8 : Tryd.prog.cellsOf 5 = 1 := by kernel_rfl
theorem cellsInt : Tryd.prog.cellsOf 3 = 1 := by kernel_rfl
theorem bytes_of {fuel : Nat} {v : Value} {y : DataW H × List MemPlace} (h : DataW.trod enc Tryd.prog w base spare held fuel 51 [v] = some y) :
    ∃ a cap l, v = .slice a l.length cap ∧ l.length ≤ cap ∧ cap ≤ maxLen ∧ Rd w a l := by
  rcases open_ints Tryd.underlying51 Tryd.underlying5 cellsU8 h with ⟨hcs, _⟩ | ⟨x, l, c, zs, hcs, _, hl, hm, hz, _, hcell, hwz⟩
  · cases hcs
    exact ⟨none, 0, [], rfl, Nat.le_refl _, by simp [maxLen], Rd.nil _ _⟩
  · cases hcs
    have hzl : l ≤ zs.length := by rw [hz]; split <;> omega
    refine ⟨some x, c, (zs.take l).map byteOf, by congr 1; simp; omega, by simp; omega, hm, ?_⟩
    intro hlen
    have hlen : 0 < l := by simp at hlen; omega
    obtain ⟨b, off, spot⟩ := x
    have hc0 := hcell 0 (by omega)
    have hspot : spot = none := by simpa [Addr.add] using World.cell?_spot hc0
    subst hspot
    refine ⟨b, off, rfl, fun i hi => ?_⟩
    have hi : i < l := by simp at hi; omega
    have h1 := hcell i (by omega)
    rw [add_plain] at h1
    rw [h1]
    have hg : ((zs.take l).map byteOf).getD i 0 = byteOf (zs.getD i 0) := by
      simp [List.getD, hi, show i < zs.length by omega]
    rw [hg, byteOf_nat (hwz _ (by simp [List.getD, show i < zs.length by omega]))]
set_option maxRecDepth 20000 in
/-- A slice that came in, as the readings above take it. -/
theorem slice_trod {t e : TypeId} {v : Value} {d : DataW H} {p : List MemPlace} {bb : Nat} (ht : Tryd.prog.underlying t = some (.slice e)) (hv : Value.okWide Tryd.prog w .any bb t v)
    (h : DataW.Trod enc Tryd.prog w base spare held t v d p) : ∃ fuel y, DataW.trod enc Tryd.prog w base spare held fuel t [v] = some y := by
  obtain ⟨a0, len0, cap0, rfl⟩ := okWide_slice ht hv
  obtain ⟨fuel, hf⟩ := h
  exact ⟨fuel, _, hf⟩
end
end Go.Proofs.YtihahckjcedceaaDoor

/- Arguments opened: rows of numbers (bytes: OpenBy). -/
namespace Go.Proofs.YtihahckjcedceaaDoor
set_option linter.unusedVariables false
open Go.ChangeShapes Go.WideShapes Go.ChangeAt Go.RowKit Go.Deep

section
variable {H : Type} {enc : TypeId × Value → H} {w : World} {base : Nat} {spare : Nat → Bool} {held : Bool}
set_option maxRecDepth 20000 in
theorem ints_of {fuel : Nat} {v : Value} {y : DataW H × List MemPlace} (h : DataW.trod enc Tryd.prog w base spare held fuel 85 [v] = some y) :
    ∃ a cap l, v = .slice a l.length cap ∧ l.length ≤ cap ∧ cap ≤ maxLen ∧ Ints w a l := by
  rcases open_ints Tryd.underlying85 Tryd.underlying3 cellsInt h with ⟨hcs, _⟩ | ⟨x, l, c, zs, hcs, _, hl, hm, hz, _, hcell, hwz⟩
  · cases hcs
    exact ⟨none, 0, [], rfl, Nat.le_refl _, by simp [maxLen], fun h => absurd h (by simp)⟩
  · cases hcs
    have hzl : l ≤ zs.length := by rw [hz]; split <;> omega
    refine ⟨some x, c, zs.take l, by congr 1; simp; omega, by simp; omega, hm, ?_⟩
    intro hlen
    have hlen : 0 < l := by simp at hlen; omega
    obtain ⟨b, off, spot⟩ := x
    have hc0 := hcell 0 (by omega)
    have hspot : spot = none := by simpa [Addr.add] using World.cell?_spot hc0
    subst hspot
    refine ⟨b, off, rfl, fun i x hi => ?_⟩
    have hil : i < l := by
      rcases Nat.lt_or_ge i l with h' | h'
      · exact h'
      · rw [List.getElem?_eq_none (by simp; omega)] at hi; cases hi
    rw [List.getElem?_take, if_pos hil] at hi
    have h1 := hcell i (by omega)
    rw [add_plain] at h1
    have e : zs.getD i 0 = x := by simp [List.getD, hi]
    rw [e] at h1
    exact ⟨h1, hwz x (List.mem_of_getElem? hi)⟩
end
end Go.Proofs.YtihahckjcedceaaDoor

/- Layer 7, the program's own device in memory: its block, the zones' block, a row of bytes for each zone. -/
namespace Go.Proofs.YtihahckjcedceaaDoor
set_option linter.unusedVariables false
open Go.RowKit

/-- A zone as it lies in memory: its slice's address and capacity, and what it has. -/
structure Zm where
  a : Option Addr
  c : Nat
  z : Zn
def Zm.g (x : Zm) : Option Nat := (Value.slice x.a x.z.b.length x.c).ownBlock
def zsC : List Zm → List Value
  | [] => []
  | x :: xs => .slice x.a x.z.b.length x.c :: .int .i64 (x.z.f : Int) :: .int .i64 (x.z.s : Int) :: zsC xs
theorem zsC_length : ∀ xs : List Zm, (zsC xs).length = xs.length * 3
  | [] => rfl
  | x :: xs => by
    show (zsC xs).length + 1 + 1 + 1 = (xs.length + 1) * 3
    rw [zsC_length xs]
    omega
theorem zsC_get : ∀ (xs : List Zm) (i : Nat) (x : Zm), xs[i]? = some x → (zsC xs)[i * 3]? = some (.slice x.a x.z.b.length x.c) ∧ (zsC xs)[i * 3 + 1]? = some (.int .i64 (x.z.f : Int)) ∧ (zsC xs)[i * 3 + 2]? = some (.int .i64 (x.z.s : Int))
  | [], _, _, h => by cases h
  | y :: ys, 0, x, h => by
    obtain rfl := Option.some.inj h
    exact ⟨rfl, rfl, rfl⟩
  | y :: ys, i + 1, x, h => by
    have := zsC_get ys i x h
    rw [show (i + 1) * 3 = i * 3 + 3 by omega, show i * 3 + 3 + 1 = i * 3 + 1 + 3 by omega, show i * 3 + 3 + 2 = i * 3 + 2 + 3 by omega]
    exact this
theorem zsC_set : ∀ (xs : List Zm) (i : Nat) (x : Zm), zsC (xs.set i x) = (((zsC xs).set (i * 3) (.slice x.a x.z.b.length x.c)).set (i * 3 + 1) (.int .i64 (x.z.f : Int))).set (i * 3 + 2) (.int .i64 (x.z.s : Int))
  | [], _, _ => rfl
  | y :: ys, 0, x => rfl
  | y :: ys, i + 1, x => by
    rw [show (i + 1) * 3 = i * 3 + 3 by omega, show i * 3 + 3 + 1 = i * 3 + 1 + 3 by omega, show i * 3 + 3 + 2 = i * 3 + 2 + 3 by omega]
    show _ :: _ :: _ :: zsC (ys.set i x) = _ :: _ :: _ :: _
    rw [zsC_set ys i x]
/-- The device's cells. -/
abbrev dvC (n s o : Int) (zb : Nat) (l : Nat) (dn : Int) (ar : Bool) (lf : Int) (dw : Bool) : Array Value := #[.int .i64 n, .int .i64 s, .int .i64 o, .slice (some ⟨zb, 0, none⟩) l l, .int .i64 dn, .bool ar, .int .i64 lf, .bool dw]
/-- How the power's cells tell it. -/
def armA (m : Dev) (ar : Bool) (lf : Int) : Prop := ar = m.arm.isSome ∧ (Lit.int .i64 lf).wf = true ∧ ∀ k, m.arm = some k → lf = (k : Int)
structure DzAt (w : World) (d zb : Nat) (xs : List Zm) (m : Dev) (ar : Bool) (lf : Int) : Prop where
  hd : At w d 98 (dvC (m.zs.length : Int) (m.size : Int) (m.opn : Int) zb m.zs.length (m.done : Int) ar lf m.down)
  hz : At w zb 95 (zsC xs).toArray
  ne : d ≠ zb
  mz : xs.map Zm.z = m.zs
  arm : armA m ar lf
  row : ∀ (i : Nat) (x : Zm), xs[i]? = some x → Row w (fun k => k ≠ d ∧ k ≠ zb) (.slice x.a x.z.b.length x.c) x.z.b
  two : ∀ (i j : Nat) (x y : Zm) (k : Nat), xs[i]? = some x → xs[j]? = some y → x.g = some k → y.g = some k → i = j
/-- THE DEVICE: all its blocks are of F. -/
def Dz (w : World) (d : Nat) (F : Nat → Prop) (m : Dev) : Prop := (∀ k, F k → k < w.heap.size) ∧ ∃ zb xs ar lf, DzAt w d zb xs m ar lf ∧ F d ∧ F zb ∧ ∀ x ∈ xs, ∀ k, x.g = some k → F k
theorem DzAt.len {w : World} {d zb : Nat} {xs : List Zm} {m : Dev} {ar : Bool} {lf : Int} (h : DzAt w d zb xs m ar lf) : xs.length = m.zs.length := by rw [← h.mz, List.length_map]
theorem DzAt.keep {w w' : World} {d zb : Nat} {xs : List Zm} {m : Dev} {ar : Bool} {lf : Int} {T : Nat → Prop} (h : DzAt w d zb xs m ar lf) (f : Fr T w w') (h1 : ¬ T d) (h2 : ¬ T zb) (h3 : ∀ x ∈ xs, ∀ k, x.g = some k → ¬ T k) : DzAt w' d zb xs m ar lf := by
  refine ⟨h.hd.keep f h1, h.hz.keep f h2, h.ne, h.mz, h.arm, fun i x hx => ?_, h.two⟩
  have hr := h.row i x hx
  have : Row w (fun k => x.g = some k ∧ k ≠ d ∧ k ≠ zb) (.slice x.a x.z.b.length x.c) x.z.b := ⟨hr.1, fun k hk => ⟨hk, hr.2 k hk⟩⟩
  have := this.keep f (fun k hk => h3 x (List.mem_of_getElem? hx) k hk.1)
  exact this.sub fun k _ hk => hk.2
theorem Dz.keep {w w' : World} {d : Nat} {F T : Nat → Prop} {m : Dev} (h : Dz w d F m) (f : Fr T w w') (hn : ∀ k, F k → ¬ T k) : Dz w' d F m := by
  obtain ⟨h0, zb, xs, ar, lf, h1, h2, h3, h4⟩ := h
  exact ⟨fun k hk => Nat.lt_of_lt_of_le (h0 k hk) f.size, zb, xs, ar, lf, h1.keep f (hn _ h2) (hn _ h3) (fun x hx k hk => hn _ (h4 x hx k hk)), h2, h3, h4⟩
/-- Behind a call that works on it. -/
def MovD (d : Nat) (F : Nat → Prop) (m : Dev) (v : Value) (w : World) (e : Ending) (w' : World) : Prop :=
  e = .returned v ∧ ∃ F', Dz w' d F' m ∧ (∀ k, F' k → F k ∨ (w.heap.size ≤ k ∧ k < w'.heap.size)) ∧ Fr F w w'
/-- The device's own cells. -/
theorem DzAt.cells {w : World} {d zb : Nat} {xs : List Zm} {m : Dev} {ar : Bool} {lf : Int} (h : DzAt w d zb xs m ar lf) :
    w.cell? ⟨d, 0, none⟩ = some (.int .i64 (m.zs.length : Int)) ∧ w.cell? ⟨d, 1, none⟩ = some (.int .i64 (m.size : Int)) ∧ w.cell? ⟨d, 2, none⟩ = some (.int .i64 (m.opn : Int)) ∧ w.cell? ⟨d, 3, none⟩ = some (.slice (some ⟨zb, 0, none⟩) m.zs.length m.zs.length) ∧
    w.cell? ⟨d, 4, none⟩ = some (.int .i64 (m.done : Int)) ∧ w.cell? ⟨d, 5, none⟩ = some (.bool ar) ∧ w.cell? ⟨d, 6, none⟩ = some (.int .i64 lf) ∧ w.cell? ⟨d, 7, none⟩ = some (.bool m.down) :=
  ⟨h.hd.cell 0, h.hd.cell 1, h.hd.cell 2, h.hd.cell 3, h.hd.cell 4, h.hd.cell 5, h.hd.cell 6, h.hd.cell 7⟩
/-- The zone z, as it lies. -/
theorem DzAt.zone {w : World} {d zb : Nat} {xs : List Zm} {m : Dev} {ar : Bool} {lf : Int} (h : DzAt w d zb xs m ar lf) {z : Int} (hz : hasZ m z = true) :
    ∃ x k, z = ((k : Nat) : Int) ∧ k < m.zs.length ∧ xs[k]? = some x ∧ x.z = zoneM m z ∧ w.cell? ⟨zb, k * 3, none⟩ = some (.slice x.a x.z.b.length x.c) ∧ w.cell? ⟨zb, k * 3 + 1, none⟩ = some (.int .i64 (x.z.f : Int)) ∧ w.cell? ⟨zb, k * 3 + 2, none⟩ = some (.int .i64 (x.z.s : Int)) := by
  obtain ⟨h0, h1⟩ := hasZ_iff.1 hz
  have h2 : z.toNat < xs.length := by rw [h.len]; exact h1
  refine ⟨xs[z.toNat], z.toNat, by omega, h1, List.getElem?_eq_getElem h2, ?_, ?_⟩
  · unfold zoneM
    rw [← h.mz, List.getD_eq_getElem?_getD, List.getElem?_map, List.getElem?_eq_getElem h2]
    rfl
  · obtain ⟨g0, g1, g2⟩ := zsC_get xs z.toNat _ (List.getElem?_eq_getElem h2)
    refine ⟨?_, ?_, ?_⟩
    · rw [h.hz.cell, List.getElem?_toArray, g0]
    · rw [h.hz.cell, List.getElem?_toArray, g1]
    · rw [h.hz.cell, List.getElem?_toArray, g2]
end Go.Proofs.YtihahckjcedceaaDoor
