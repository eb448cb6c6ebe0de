/-
  Texts of layer 14 and of what it stands on, one behind the other.
-/
import Derived.Test.YtihahckjcedceaaDoorMg03
import Derived.Lib.Hide
import Derived.Handy
import Derived.Laws.BytesArg
import Derived.Deep.RegionHeld3

/- A row of the call's own that comes back ('NewRow'); bytes as a text. -/
namespace Go.Proofs.YtihahckjcedceaaDoor
set_option linter.unusedVariables false
open Go.RowKit

/-- A row of the call's own comes back, and nothing that was there has turned. -/
def NewRow (l : List UInt8) (w : World) (e : Ending) (w' : World) : Prop := ∃ v, e = .returned v ∧ Row w' (Gr No w w') v l ∧ Fr No w w'

def strOf (l : List UInt8) : ByteArray := ⟨l.toArray⟩
set_option maxRecDepth 20000 in
theorem conv_rd (w : World) (a : Option Addr) (len cap : Nat) (l : List UInt8) (hl : l.length = len) (hr : Rd w a l) :
    (convert 51 9 (.slice a len cap)).run Tryd.prog w = .ok (.string (strOf l)) w := by
  subst hl
  by_cases h0 : l = []
  · subst h0
    cases a with
    | none =>
      rw [run_convert_bytes_nil w 51 5 Tryd.underlying51 Tryd.underlying5 _ _ 9 Tryd.underlying9]
      rfl
    | some x =>
      rw [run_convert_bytes_string w 51 9 5 _ _ _ Tryd.underlying51 Tryd.underlying5 Tryd.underlying9]
      exact run_bytesToString (P := Tryd.prog) w x 0 cap [] (run_loadCells_list (P := Tryd.prog) w x [] (fun j v hj => by simp at hj))
  · obtain ⟨b, o, rfl, hc⟩ := hr (List.length_pos_iff.mpr h0)
    have h := run_convert_bytes_arg (P := Tryd.prog) w 51 5 Tryd.underlying51 Tryd.underlying5 b o l.length cap (l.map fun x => (x.toNat : Int)) (by simp) (fun i hi => by
      rw [hc i hi]
      simp [List.getD, List.getElem?_eq_getElem hi]) 9 Tryd.underlying9
    rw [h]
    congr 2
    unfold strOfNums strOf
    congr 2
    rw [List.map_map]
    conv => rhs; rw [← List.map_id l]
    apply List.map_congr_left
    intro x _
    simp
theorem strOf_toList (l : List UInt8) : (strOf l).toList = l := by
  rw [ByteArray.toList_eq]
  rfl
end Go.Proofs.YtihahckjcedceaaDoor

/- The document's Same. -/
namespace Go.Proofs.YtihahckjcedceaaDoor
set_option linter.unusedVariables false
open Go.RowKit

set_option maxHeartbeats 400000 in
theorem same_c (a a' : Option Addr) (len cap len' cap' : Nat) (l l' : List UInt8) (w : World) (hl : l.length = len) (hl' : l'.length = len') (hr : Rd w a l) (hr' : Rd w a' l') :
    Calls Tryd.prog 31 #[.slice a len cap, .slice a' len' cap'] w fun e w' => e = .returned (.bool (l == l')) ∧ w = w' := by
  have k1 := conv_rd w a len cap l hl hr
  have k2 := conv_rd w a' len' cap' l' hl' hr'
  have t1 := strOf_toList l
  have t2 := strOf_toList l'
  clear hl hl' hr hr'
  go_enter Tryd.func31, Tryd.ntmps31
  go_wp2_with fail
  go_ret
  exact ⟨rfl, rfl⟩
theorem same_yes {a a' : Option Addr} {len cap len' cap' : Nat} {l l' : List UInt8} {w : World} (hl : l.length = len) (hl' : l'.length = len') (hr : Rd w a l) (hr' : Rd w a' l') (h : l = l') :
    Calls Tryd.prog 31 #[.slice a len cap, .slice a' len' cap'] w fun e w' => e = .returned (.bool true) ∧ w = w' := by
  have := same_c a a' len cap len' cap' l l' w hl hl' hr hr'
  rwa [show (l == l') = true by rw [h]; exact beq_self_eq_true l'] at this
end Go.Proofs.YtihahckjcedceaaDoor

/- A row of the call's own, of whatever elements ('RowG'): n elements of k cells each, their cells in a list. Over any program. -/
namespace Go.Proofs.YtihahckjcedceaaDoor
set_option linter.unusedVariables false
open Go.RowKit

/-- What a program says of a slice's type: its element, the element's zero value, cells and bytes. -/
structure RowT (P : Program) (t e : TypeId) (z : Value) (k b : Nat) : Prop where
  und : P.underlying t = some (.slice e)
  info : (P.info? e).map (fun i => (i.zero, i.size, i.bytes)) = some (some z, k, b)
  zc : z.cells.size = k
  pos : 0 < k
def RowG (w : World) (S : Nat → Prop) (e : TypeId) (k : Nat) (v : Value) (n : Nat) (cs : List Value) : Prop := w.ownsRow 0 e k v n cs ∧ ∀ b, v.ownBlock = some b → S b
theorem RowG.nil (w : World) (S : Nat → Prop) (e : TypeId) (k : Nat) : RowG w S e k (.slice none 0 0) 0 [] := ⟨World.ownsRow_nil w 0 e k, fun b h => by simp [Value.ownBlock] at h⟩
theorem RowG.sub {w : World} {S T : Nat → Prop} {e : TypeId} {k : Nat} {v : Value} {n : Nat} {cs : List Value} (h : RowG w S e k v n cs) (hs : ∀ b, b < w.heap.size → S b → T b) : RowG w T e k v n cs := ⟨h.1, fun b hb => hs b (h.1.lt b hb).2 (h.2 b hb)⟩
theorem RowG.keep {w w' : World} {S T : Nat → Prop} {e : TypeId} {k : Nat} {v : Value} {n : Nat} {cs : List Value} (h : RowG w S e k v n cs) (f : Fr T w w') (hn : ∀ b, S b → ¬ T b) : RowG w' S e k v n cs := by
  obtain ⟨⟨h1, h2⟩, h3⟩ := h
  refine ⟨⟨h1, ?_⟩, h3⟩
  rcases h2 with h2 | ⟨g, cap, cur, rfl, hb, hg, rest⟩
  · exact .inl h2
  · exact .inr ⟨g, cap, cur, rfl, hb, (f.block g (Array.getElem?_eq_some_iff.1 hg).1 (hn g (h3 g rfl))).trans hg, rest⟩
theorem RowG.form {w : World} {S : Nat → Prop} {e : TypeId} {k : Nat} {v : Value} {n : Nat} {cs : List Value} (h : RowG w S e k v n cs) :
    ∃ a cap, v = .slice a n cap ∧ n ≤ cap ∧ cap ≤ maxLen ∧ cs.length = n * k ∧ (0 < n → ∃ b, S b ∧ a = some ⟨b, 0, none⟩ ∧ ∀ j, j < n * k → w.cell? ⟨b, j, none⟩ = cs[j]? ∧ w.frozen? ⟨b, j, none⟩ = false) := by
  obtain ⟨⟨h1, h2⟩, h3⟩ := h
  rcases h2 with ⟨rfl, rfl⟩ | ⟨g, cap, cur, rfl, hb, hg, hn, hm, hc, ht⟩
  · exact ⟨none, 0, rfl, Nat.le_refl _, by simp [maxLen], h1, fun h => absurd h (Nat.lt_irrefl 0)⟩
  · refine ⟨some ⟨g, 0, none⟩, cap, rfl, hn, hm, h1, fun hl => ⟨g, h3 g rfl, rfl, fun j hj => ⟨?_, ?_⟩⟩⟩
    · rw [cell_of_row w g j cur _ (0, 0) hg, ← ht, List.getElem?_take, if_pos hj, Array.getElem?_toList]
    · simp [World.frozen?, hg]
theorem RowG.block {w : World} {S : Nat → Prop} {e : TypeId} {k : Nat} {v : Value} {n : Nat} {cs : List Value} (h : RowG w S e k v n cs) {b : Nat} (hb : v.ownBlock = some b) : S b ∧ b < w.heap.size := ⟨h.2 b hb, (h.1.lt b hb).2⟩
theorem RowG.join {S : Nat → Prop} {a b c : World} {e : TypeId} {k : Nat} {v : Value} {n : Nat} {cs : List Value} (h : RowG c (Gr (Gr S a b) b c) e k v n cs) (h1 : a.heap.size ≤ b.heap.size) (h2 : b.heap.size ≤ c.heap.size) : RowG c (Gr S a c) e k v n cs :=
  h.sub fun x _ hx => by
    rcases hx with (hx | hx) | hx
    · exact .inl hx
    · exact .inr ⟨hx.1, by omega⟩
    · exact .inr ⟨by omega, hx.2⟩
theorem add_at (b o i : Nat) : (⟨b, o, none⟩ : Addr).add i = ⟨b, o + i, none⟩ := by unfold Addr.add; split <;> simp_all
/-- APPEND OF ONE ELEMENT, which lies in a new block of its own. -/
theorem RowG.push {P : Program} {t e : TypeId} {z : Value} {k b : Nat} (hT : RowT P t e z k b) {w : World} {S : Nat → Prop} {v : Value} {n : Nat} {cs : List Value} (h : RowG w S e k v n cs) (hS : ∀ x, S x → x < w.heap.size) (xs : List Value) (hx : xs.length = k) (h1 : ∀ u ∈ xs, u.oneCell' = true)
    (hb : (n + 1) * b ≤ 140737488355328) (hn : n < 1000000000) :
    ∃ v' w', (Builtin.append_ #[t, t] t #[v, .slice (some ⟨w.heap.size, 0, none⟩) 1 1]).run P (w.alloc (.cells xs.toArray e)) = .ok v' w' ∧ RowG w' (Gr S w w') e k v' (n + 1) (cs ++ xs) ∧ Fr S w w' := by
  obtain ⟨i0, hi, hz0, hz1, hz2⟩ := info_parts hT.info
  have f := (Fr.refl No w).alloc (.cells xs.toArray e)
  have h' := h.keep f fun _ _ h => h
  obtain ⟨v', w', hrun, h2, h3, _, h5⟩ := run_append_own_at (P := P) (w.alloc (.cells xs.toArray e)) 0 t t e i0 z k b hT.und hi hz0 hz1 hz2 hT.zc hT.pos v n cs h'.1
    ⟨w.heap.size, 0, none⟩ 1 1 xs (by rw [hx, Nat.one_mul]) (fun j u hu => by
      rw [add_at, Nat.zero_add, cell_of_row _ _ j _ e (0, 0) (heap_alloc_new w _)]
      simpa using hu) h1 (by unfold maxLen; omega) hb (Nat.zero_le _)
  have hf3 := Fr.grown h3 h'.2
  have hsz := f.size
  refine ⟨v', w', hrun, ⟨h2, fun x hx => ?_⟩, (f.sub fun _ _ h => h.elim).then_ hf3 fun _ _ h => h⟩
  rcases h5 with h5 | h5
  · exact .inl (h.2 x (h5 ▸ hx))
  · rw [h5] at hx
    have hk : (w.alloc (.cells xs.toArray e)).heap.size = x := Option.some.inj hx
    have h6 := (h2.lt x (by rw [h5, hk])).2
    exact .inr ⟨by omega, h6⟩
/-- A STORE INTO A ROW. -/
theorem RowG.set_ {w : World} {S : Nat → Prop} {e : TypeId} {k : Nat} {v : Value} {n : Nat} {cs : List Value} (h : RowG w S e k v n cs) {g j : Nat} (hv : v.ownBlock = some g) (hj : j < n * k) (u : Value) :
    RowG (w.setCell ⟨g, j, none⟩ u) S e k v n (cs.set j u) ∧ Fr S w (w.setCell ⟨g, j, none⟩ u) := by
  obtain ⟨⟨h1, h2⟩, h3⟩ := h
  refine ⟨?_, (Fr.refl S w).setCell (fun _ => h3 g hv) u⟩
  rcases h2 with ⟨rfl, _⟩ | ⟨g', cap, cur, rfl, hb, hg, hn, hm, hc, ht⟩
  · simp [Value.ownBlock] at hv
  · obtain rfl : g' = g := Option.some.inj hv
    refine ⟨⟨by rw [List.length_set]; exact h1, .inr ⟨g', cap, cur.setIfInBounds j u, rfl, hb, ?_, hn, hm, by simpa using hc, ?_⟩⟩, h3⟩
    · simp [World.setCell, Array.getElem?_modify, hg]
    · rw [Array.toList_setIfInBounds, List.take_set, ht]
theorem RowG.grow {w w1 w2 : World} {e : TypeId} {k : Nat} {v : Value} {n : Nat} {cs : List Value} (h : RowG w1 (Gr No w w1) e k v n cs) (f : Fr No w1 w2) : RowG w2 (Gr No w w2) e k v n cs :=
  (h.keep f fun _ _ h => h).sub fun x _ hx => by
    rcases hx with hx | hx
    · exact hx.elim
    · exact .inr ⟨hx.1, Nat.lt_of_lt_of_le hx.2 f.size⟩
end Go.Proofs.YtihahckjcedceaaDoor

/- A region that draws its order, taken by hand: the takes read off the list; and S made stronger on the way. Over any program. -/
namespace Go.Proofs.YtihahckjcedceaaDoor
set_option linter.unusedVariables false
open Go.RowKit

theorem at_drop {ops : Array Oper} {i : Nat} {o : Oper} {rest : List Oper} (h : ops.toList.drop i = o :: rest) : ops[i]? = some o := by
  have : (ops.toList.drop i)[0]? = some o := by rw [h]; rfl
  rw [List.getElem?_drop, Nat.add_zero, Array.getElem?_toList] at this
  exact this
section
variable {P : Program} {ops : Array Oper} {Q : Exit → Act → World → Prop} {md : Region.Mode} {S S' : World → Prop}
/-- 'wpAnyH_take', the operation read off the list (so that it comes out plain). -/
theorem take_drop {i : Nat} {oi : Oper} {rest : List Oper} {v : Value} {fuel : Nat} {listed : Array Bool} {a : Act} {w : World} (hi : ops.toList.drop i = oi :: rest)
    (hs : Region.noSelect ops = true) (hf : Region.free md ops listed i = true) (hr : (Region.ready md ops listed).contains i = true)
    (hQ : ∀ c a w, Q (.panic c) (a.put oi.dst v) w → Q (.panic c) a w) (hy : YieldsIf P ops S oi v a) (hS : S w)
    (h : wpAnyH P md ops Q S fuel (listed.setIfInBounds i true) (a.put oi.dst v) w) : wpAnyH P md ops Q S (fuel + 1) listed a w :=
  wpAnyH_take (at_drop hi) hs hf hr hQ hy hS h
/-- One that comes up is carried out. -/
theorem do_drop {i : Nat} {o : Oper} {rest : List Oper} {fuel : Nat} {listed : Array Bool} {a : Act} {w : World} {rs : List Nat} (hi : ops.toList.drop i = o :: rest)
    (h : ∀ K' : Act → World → Prop, Shut (∀ a w, S w → wpAnyH P md ops Q S fuel (listed.setIfInBounds i true) a w → K' a w) → if Region.wanted o (yielded ops a.tmps) = true then Oper.wp P o a w K' Q else K' (a.put o.dst undef) w)
    (hs : AllReadyH P md ops Q S fuel listed a w rs) : AllReadyH P md ops Q S fuel listed a w (i :: rs) :=
  AllReadyH.cons (at_drop hi) (fun K' hK => h K' (fun a w hS hW => hK.out a w hS (fun _ => hW))) hs
/-- More may be asked of the worlds to come. -/
theorem wpAnyH_strong (hS : ∀ w, S' w → S w) : ∀ (fuel : Nat) (listed : Array Bool) (a : Act) (w : World), wpAnyH P md ops Q S' fuel listed a w → wpAnyH P md ops Q S fuel listed a w
  | 0, _, _, _, h => h
  | fuel + 1, _, _, _, h => ⟨h.1, fun i hi => wpOp_mono (fun a' w' h' => ⟨hS _ h'.1, wpAnyH_strong hS fuel _ a' w' h'.2⟩) (h.2 i hi)⟩
end
end Go.Proofs.YtihahckjcedceaaDoor
