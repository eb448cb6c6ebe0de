/-
  Texts of layer 13 and of what it stands on, one behind the other.
-/
import Derived.Test.YtlobnbbndkhcbaaGreatDoorMg01
import Derived.Shelf.Small.Bits
import Derived.Shelf.Strconv.Itoa0
import Derived.Test.YtlobnbbndkhcbaaGreatDoorProg

/- A row of the call's own, of whatever elements ('RowG'): n elements of k cells each, their cells in a list. Over any program. -/
namespace Go.Proofs.YtlobnbbndkhcbaaGreatDoor
set_option linter.unusedVariables false
open Go.RowKit

/-- What a program says of a slice's type: its element, the element's zero value, cells and bytes. -/
structure RowT (P : Program) (t e : TypeId) (z : Value) (k b : Nat) : Prop where
  und : P.underlying t = some (.slice e)
  info : (P.info? e).map (fun i => (i.zero, i.size, i.bytes)) = some (some z, k, b)
  zc : z.cells.size = k
  pos : 0 < k
def RowG (w : World) (S : Nat → Prop) (e : TypeId) (k : Nat) (v : Value) (n : Nat) (cs : List Value) : Prop := w.ownsRow 0 e k v n cs ∧ ∀ b, v.ownBlock = some b → S b
theorem RowG.nil (w : World) (S : Nat → Prop) (e : TypeId) (k : Nat) : RowG w S e k (.slice none 0 0) 0 [] := ⟨World.ownsRow_nil w 0 e k, fun b h => by simp [Value.ownBlock] at h⟩
theorem RowG.sub {w : World} {S T : Nat → Prop} {e : TypeId} {k : Nat} {v : Value} {n : Nat} {cs : List Value} (h : RowG w S e k v n cs) (hs : ∀ b, b < w.heap.size → S b → T b) : RowG w T e k v n cs := ⟨h.1, fun b hb => hs b (h.1.lt b hb).2 (h.2 b hb)⟩
theorem RowG.keep {w w' : World} {S T : Nat → Prop} {e : TypeId} {k : Nat} {v : Value} {n : Nat} {cs : List Value} (h : RowG w S e k v n cs) (f : Fr T w w') (hn : ∀ b, S b → ¬ T b) : RowG w' S e k v n cs := by
  obtain ⟨⟨h1, h2⟩, h3⟩ := h
  refine ⟨⟨h1, ?_⟩, h3⟩
  rcases h2 with h2 | ⟨g, cap, cur, rfl, hb, hg, rest⟩
  · exact .inl h2
  · exact .inr ⟨g, cap, cur, rfl, hb, (f.block g (Array.getElem?_eq_some_iff.1 hg).1 (hn g (h3 g rfl))).trans hg, rest⟩
theorem RowG.form {w : World} {S : Nat → Prop} {e : TypeId} {k : Nat} {v : Value} {n : Nat} {cs : List Value} (h : RowG w S e k v n cs) :
    ∃ a cap, v = .slice a n cap ∧ n ≤ cap ∧ cap ≤ maxLen ∧ cs.length = n * k ∧ (0 < n → ∃ b, S b ∧ a = some ⟨b, 0, none⟩ ∧ ∀ j, j < n * k → w.cell? ⟨b, j, none⟩ = cs[j]? ∧ w.frozen? ⟨b, j, none⟩ = false) := by
  obtain ⟨⟨h1, h2⟩, h3⟩ := h
  rcases h2 with ⟨rfl, rfl⟩ | ⟨g, cap, cur, rfl, hb, hg, hn, hm, hc, ht⟩
  · exact ⟨none, 0, rfl, Nat.le_refl _, by simp [maxLen], h1, fun h => absurd h (Nat.lt_irrefl 0)⟩
  · refine ⟨some ⟨g, 0, none⟩, cap, rfl, hn, hm, h1, fun hl => ⟨g, h3 g rfl, rfl, fun j hj => ⟨?_, ?_⟩⟩⟩
    · rw [cell_of_row w g j cur _ (0, 0) hg, ← ht, List.getElem?_take, if_pos hj, Array.getElem?_toList]
    · simp [World.frozen?, hg]
theorem RowG.block {w : World} {S : Nat → Prop} {e : TypeId} {k : Nat} {v : Value} {n : Nat} {cs : List Value} (h : RowG w S e k v n cs) {b : Nat} (hb : v.ownBlock = some b) : S b ∧ b < w.heap.size := ⟨h.2 b hb, (h.1.lt b hb).2⟩
theorem RowG.join {S : Nat → Prop} {a b c : World} {e : TypeId} {k : Nat} {v : Value} {n : Nat} {cs : List Value} (h : RowG c (Gr (Gr S a b) b c) e k v n cs) (h1 : a.heap.size ≤ b.heap.size) (h2 : b.heap.size ≤ c.heap.size) : RowG c (Gr S a c) e k v n cs :=
  h.sub fun x _ hx => by
    rcases hx with (hx | hx) | hx
    · exact .inl hx
    · exact .inr ⟨hx.1, by omega⟩
    · exact .inr ⟨by omega, hx.2⟩
theorem add_at (b o i : Nat) : (⟨b, o, none⟩ : Addr).add i = ⟨b, o + i, none⟩ := by unfold Addr.add; split <;> simp_all
/-- APPEND OF ONE ELEMENT, which lies in a new block of its own. -/
theorem RowG.push {P : Program} {t e : TypeId} {z : Value} {k b : Nat} (hT : RowT P t e z k b) {w : World} {S : Nat → Prop} {v : Value} {n : Nat} {cs : List Value} (h : RowG w S e k v n cs) (hS : ∀ x, S x → x < w.heap.size) (xs : List Value) (hx : xs.length = k) (h1 : ∀ u ∈ xs, u.oneCell' = true)
    (hb : (n + 1) * b ≤ 140737488355328) (hn : n < 1000000000) :
    ∃ v' w', (Builtin.append_ #[t, t] t #[v, .slice (some ⟨w.heap.size, 0, none⟩) 1 1]).run P (w.alloc (.cells xs.toArray e)) = .ok v' w' ∧ RowG w' (Gr S w w') e k v' (n + 1) (cs ++ xs) ∧ Fr S w w' := by
  obtain ⟨i0, hi, hz0, hz1, hz2⟩ := info_parts hT.info
  have f := (Fr.refl No w).alloc (.cells xs.toArray e)
  have h' := h.keep f fun _ _ h => h
  obtain ⟨v', w', hrun, h2, h3, _, h5⟩ := run_append_own_at (P := P) (w.alloc (.cells xs.toArray e)) 0 t t e i0 z k b hT.und hi hz0 hz1 hz2 hT.zc hT.pos v n cs h'.1
    ⟨w.heap.size, 0, none⟩ 1 1 xs (by rw [hx, Nat.one_mul]) (fun j u hu => by
      rw [add_at, Nat.zero_add, cell_of_row _ _ j _ e (0, 0) (heap_alloc_new w _)]
      simpa using hu) h1 (by unfold maxLen; omega) hb (Nat.zero_le _)
  have hf3 := Fr.grown h3 h'.2
  have hsz := f.size
  refine ⟨v', w', hrun, ⟨h2, fun x hx => ?_⟩, (f.sub fun _ _ h => h.elim).then_ hf3 fun _ _ h => h⟩
  rcases h5 with h5 | h5
  · exact .inl (h.2 x (h5 ▸ hx))
  · rw [h5] at hx
    have hk : (w.alloc (.cells xs.toArray e)).heap.size = x := Option.some.inj hx
    have h6 := (h2.lt x (by rw [h5, hk])).2
    exact .inr ⟨by omega, h6⟩
/-- A STORE INTO A ROW. -/
theorem RowG.set_ {w : World} {S : Nat → Prop} {e : TypeId} {k : Nat} {v : Value} {n : Nat} {cs : List Value} (h : RowG w S e k v n cs) {g j : Nat} (hv : v.ownBlock = some g) (hj : j < n * k) (u : Value) :
    RowG (w.setCell ⟨g, j, none⟩ u) S e k v n (cs.set j u) ∧ Fr S w (w.setCell ⟨g, j, none⟩ u) := by
  obtain ⟨⟨h1, h2⟩, h3⟩ := h
  refine ⟨?_, (Fr.refl S w).setCell (fun _ => h3 g hv) u⟩
  rcases h2 with ⟨rfl, _⟩ | ⟨g', cap, cur, rfl, hb, hg, hn, hm, hc, ht⟩
  · simp [Value.ownBlock] at hv
  · obtain rfl : g' = g := Option.some.inj hv
    refine ⟨⟨by rw [List.length_set]; exact h1, .inr ⟨g', cap, cur.setIfInBounds j u, rfl, hb, ?_, hn, hm, by simpa using hc, ?_⟩⟩, h3⟩
    · simp [World.setCell, Array.getElem?_modify, hg]
    · rw [Array.toList_setIfInBounds, List.take_set, ht]
theorem RowG.grow {w w1 w2 : World} {e : TypeId} {k : Nat} {v : Value} {n : Nat} {cs : List Value} (h : RowG w1 (Gr No w w1) e k v n cs) (f : Fr No w1 w2) : RowG w2 (Gr No w w2) e k v n cs :=
  (h.keep f fun _ _ h => h).sub fun x _ hx => by
    rcases hx with hx | hx
    · exact hx.elim
    · exact .inr ⟨hx.1, Nat.lt_of_lt_of_le hx.2 f.size⟩
end Go.Proofs.YtlobnbbndkhcbaaGreatDoor

/- A text's bytes. No program is named. -/
namespace Go.Proofs.YtlobnbbndkhcbaaGreatDoor

/-- A text's bytes. -/
def bs (s : ByteArray) : List UInt8 := s.data.toList
theorem bs_length (s : ByteArray) : (bs s).length = s.size := by unfold bs; rw [Array.length_toList]; rfl
end Go.Proofs.YtlobnbbndkhcbaaGreatDoor

/- bits.Len's contract at this program: a laying of the library's own. -/
namespace Go.Proofs
open Go.Shelf
def Tryz.lays125_ren : Go.Shelf.Ren := ⟨fun | 125 => 143 | 128 => 151 | 129 => 152 | n => n, fun | 46 => 171 | 3 => 3 | 51 => 97 | 53 => 161 | 4 => 4 | 5 => 5 | 9 => 9 | n => n, fun | n => n⟩
theorem Tryz.lays125 : Go.Proofs.Lays.n125 Tryz.prog Tryz.lays125_ren := {
  mixed := by kernel_rfl
  f125 := Tryz.func143.trans (congrArg some (by kernel_rfl))
  f128 := Tryz.func151.trans (congrArg some (by kernel_rfl))
  f129 := Tryz.func152.trans (congrArg some (by kernel_rfl))
  t3 := Tryz.underlying3
  a3 := Tryz.isAgg3
  z3 := Tryz.sizeOf3
  v3 := Tryz.zeroValue3
  t4 := Tryz.underlying4
  a4 := Tryz.isAgg4
  z4 := Tryz.sizeOf4
  v4 := Tryz.zeroValue4
  t5 := Tryz.underlying5
  a5 := Tryz.isAgg5
  z5 := Tryz.sizeOf5
  v5 := Tryz.zeroValue5
  t9 := Tryz.underlying9
  a9 := Tryz.isAgg9
  z9 := Tryz.sizeOf9
  v9 := Tryz.zeroValue9
  t46 := Tryz.underlying171
  a46 := Tryz.isAgg171
  z46 := Tryz.sizeOf171
  v46 := Tryz.zeroValue171
  t51 := Tryz.underlying97
  a51 := Tryz.isAgg97
  z51 := Tryz.sizeOf97
  v51 := Tryz.zeroValue97
  t53 := Tryz.underlying161
  a53 := Tryz.isAgg161
  z53 := Tryz.sizeOf161
  v53 := Tryz.zeroValue161 }
theorem Tryz.bits_Len (x : Int) (w : World) (h0 : 0 ≤ x) (h1 : x ≤ 18446744073709551615) :
    Calls Tryz.prog 143 #[.int .u64 x] w fun e w' => e = .returned (.int .i64 (Lib.bitLen x.toNat)) ∧ w' = w := Any.bits_Len Tryz.lays125 x w h0 h1
end Go.Proofs
