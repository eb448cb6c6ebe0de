/-
  Layer 8, the document's own table: numbers that begin anywhere in a block; Has, Own, Release, Take, List.
-/
import Derived.Test.YtmkadpjacidlkaaAlF
import Derived.ArgAppend
import Derived.Test.YtmkadpjacidlkaaAlE
namespace Go.Proofs.Ytmkadpjacidlkaa
set_option linter.unusedVariables false
open Go.RowKit

abbrev ign (l : List Nat) : List Value := l.map fun (x : Nat) => Value.int .i64 (x : Int)
/-- Numbers that lie in a block of the call's own, wherever they begin. -/
def RowO (w : World) (S : Nat → Prop) (a : Option Addr) (c : Nat) (l : List Nat) : Prop :=
  (a = none ∧ l = [] ∧ c = 0) ∨ ∃ g o cur, a = some ⟨g, o, none⟩ ∧ S g ∧ At w g 3 cur ∧ o + c ≤ cur.size ∧ l.length ≤ c ∧ c ≤ maxLen ∧ ∀ i, i < l.length → cur[o + i]? = (ign l)[i]?
theorem RowO.keep {w w' : World} {S T : Nat → Prop} {a : Option Addr} {c : Nat} {l : List Nat} (h : RowO w S a c l) (f : Fr T w w') (hn : ∀ k, S k → ¬ T k) : RowO w' S a c l := by
  rcases h with h | ⟨g, o, cur, h1, h2, h3, h4⟩
  · exact .inl h
  · exact .inr ⟨g, o, cur, h1, h2, h3.keep f (hn g h2), h4⟩
theorem RowO.sub {w : World} {S T : Nat → Prop} {a : Option Addr} {c : Nat} {l : List Nat} (h : RowO w S a c l) (hs : ∀ k, k < w.heap.size → S k → T k) : RowO w T a c l := by
  rcases h with h | ⟨g, o, cur, h1, h2, h3, h4⟩
  · exact .inl h
  · exact .inr ⟨g, o, cur, h1, hs g h3.lt h2, h3, h4⟩
theorem RowO.cap {w : World} {S : Nat → Prop} {a : Option Addr} {c : Nat} {l : List Nat} (h : RowO w S a c l) : l.length ≤ c ∧ c ≤ maxLen := by
  rcases h with ⟨_, rfl, rfl⟩ | ⟨g, o, cur, h1, h2, h3, h4, h5, h6, _⟩
  · simp [maxLen]
  · exact ⟨h5, h6⟩
/-- Its cells. -/
theorem RowO.at_ {w : World} {S : Nat → Prop} {a : Option Addr} {c : Nat} {l : List Nat} (h : RowO w S a c l) (hl : 0 < l.length) : ∃ g o, a = some ⟨g, o, none⟩ ∧ S g ∧ ∀ i, i < l.length → w.cell? ⟨g, o + i, none⟩ = some (.int .i64 ((l.getD i 0 : Nat) : Int)) := by
  rcases h with ⟨_, rfl, _⟩ | ⟨g, o, cur, h1, h2, h3, h4, h5, h6, h7⟩
  · exact absurd hl (by simp)
  · refine ⟨g, o, h1, h2, fun i hi => ?_⟩
    rw [h3.cell, h7 i hi, List.getElem?_map, List.getElem?_eq_getElem hi, List.getD_eq_getElem?_getD, List.getElem?_eq_getElem hi]
    rfl
theorem RowO.ints {w : World} {S : Nat → Prop} {a : Option Addr} {c : Nat} {l : List Nat} (h : RowO w S a c l) (hw : ∀ x ∈ l, x < 1000000) : Ints w a (l.map fun (x : Nat) => (x : Int)) := fun hl => by
  rw [List.length_map] at hl
  obtain ⟨g, o, ha, _, hx⟩ := h.at_ hl
  refine ⟨g, o, ha, fun i x hi => ?_⟩
  rw [List.getElem?_map] at hi
  have hil : i < l.length := by
    rcases Nat.lt_or_ge i l.length with h | h
    · exact h
    · rw [List.getElem?_eq_none h] at hi; cases hi
  rw [List.getElem?_eq_getElem hil] at hi
  have e : ((l[i] : Nat) : Int) = x := by simpa using hi
  have := hx i hil
  rw [List.getD_eq_getElem?_getD, List.getElem?_eq_getElem hil] at this
  subst e
  have hb := hw _ (List.getElem_mem hil)
  exact ⟨this, wf_small (by omega) (by omega)⟩
/-- The first is cut off. -/
theorem RowO.tail {w : World} {S : Nat → Prop} {a : Option Addr} {c : Nat} {z : Nat} {l : List Nat} (h : RowO w S a c (z :: l)) :
    ∃ a', (∀ w' : World, (Instr.slice 29 (.slice a (l.length + 1) c) (some (.int .i64 1)) none none).run Try.prog w' = .ok (.slice a' l.length (c - 1)) w') ∧ RowO w S a' (c - 1) l := by
  have hone : ∀ w : World, (sizeOf 3).run Try.prog w = .ok 1 w := fun w => by
    obtain ⟨i0, hi0, _, hz1, _⟩ := info_parts infoI64
    simp [sizeOf, typeInfo, hi0, hz1, Result.andThen]
  rcases h with ⟨_, h, _⟩ | ⟨g, o, cur, rfl, h2, h3, h4, h5, h6, h7⟩
  · cases h
  · rw [List.length_cons] at h5
    refine ⟨cutAt (some ⟨g, o, none⟩) 1 c, fun w' => ?_, ?_⟩
    · have := cut_lo (P := Try.prog) Try.underlying29 hone (some ⟨g, o, none⟩) (l.length + 1) c 1 (by omega) w'
      rw [show l.length + 1 - 1 = l.length by omega] at this
      exact this
    · by_cases hc : c = 1
      · subst hc
        have hl : l = [] := List.eq_nil_of_length_eq_zero (by omega)
        subst hl
        exact .inr ⟨g, o, cur, by unfold cutAt; rw [if_pos rfl], h2, h3, by omega, by simp, by omega, fun i hi => absurd hi (by simp)⟩
      · refine .inr ⟨g, o + 1, cur, ?_, h2, h3, by omega, by omega, by omega, fun i hi => ?_⟩
        · unfold cutAt
          rw [if_neg hc]
          simp [Addr.add]
        · have := h7 (i + 1) (by rw [List.length_cons]; omega)
          rw [show o + 1 + i = o + (i + 1) by omega, this]
          rfl
theorem RowO.of_owns {w : World} {S : Nat → Prop} {v : Value} {l : List Nat} {base : Nat} (h : w.ownsRow base 3 1 v l.length (ign l)) (hS : ∀ k, v.ownBlock = some k → S k) : ∃ a c, v = .slice a l.length c ∧ RowO w S a c l := by
  obtain ⟨h1, h2⟩ := h
  rcases h2 with ⟨rfl, h0⟩ | ⟨g, cap, cur, rfl, hb, hg, hn, hm, hc, ht⟩
  · have : l = [] := List.eq_nil_of_length_eq_zero h0
    subst this
    exact ⟨none, 0, rfl, .inl ⟨rfl, rfl, rfl⟩⟩
  · refine ⟨_, _, rfl, .inr ⟨g, 0, cur, rfl, hS g rfl, hg, by omega, hn, hm, fun i hi => ?_⟩⟩
    rw [Nat.zero_add, ← Array.getElem?_toList, ← ht, List.getElem?_take, if_pos (by omega)]
/-- One more, in a block of its own. -/
theorem RowO.push {w : World} {S : Nat → Prop} {a : Option Addr} {c : Nat} {l : List Nat} (h : RowO w S a c l) (hS : ∀ k, S k → k < w.heap.size) (x : Nat) (hb : l.length < 100000) :
    ∃ a' c' w', (Builtin.append_ #[29, 29] 29 #[.slice a l.length c, .slice (some ⟨w.heap.size, 0, none⟩) 1 1]).run Try.prog (w.alloc (.cells #[.int .i64 (x : Int)] 3)) = .ok (.slice a' (l.length + 1) c') w' ∧ RowO w' (Gr S w w') a' c' (l ++ [x]) ∧ Fr S w w' := by
  obtain ⟨i0, hi, hz0, hz1, hz2⟩ := info_parts infoI64
  obtain ⟨w1, hw1⟩ : ∃ w1, w.alloc (.cells #[.int .i64 (x : Int)] 3) = w1 := ⟨_, rfl⟩
  have f : Fr No w w1 := by rw [← hw1]; exact (Fr.refl No w).alloc _
  have hs1 : w1.heap.size = w.heap.size + 1 := by rw [← hw1]; simp
  have hnew : ∀ j u, [ig (x : Int)][j]? = some u → w1.cell? ((⟨w.heap.size, 0, none⟩ : Addr).add j) = some u := by rw [← hw1]; exact cell_one_new _ _ _
  have h' := h.keep f fun _ _ h => h
  rw [hw1]
  rcases h' with ⟨rfl, rfl, rfl⟩ | ⟨g, o, cur, rfl, h2, h3, h4, h5, h6, h7⟩
  · obtain ⟨v', w', hrun, hr, hg, _, h5⟩ := run_append_own_at (P := Try.prog) w1 0 29 29 3 i0 (.int .i64 0) 1 8 Try.underlying29 hi hz0 hz1 hz2 rfl (by decide) (.slice none 0 0) 0 [] (World.ownsRow_nil w1 0 _ 1)
      ⟨w.heap.size, 0, none⟩ 1 1 [ig (x : Int)] rfl hnew (by simp [Value.oneCell']) (by unfold maxLen; omega) (by omega) (Nat.zero_le _)
    have hf2 : Fr No w1 w' := Fr.grown hg (fun k hk => by cases hk)
    obtain ⟨a', c', hv, hro⟩ := RowO.of_owns (l := [] ++ [x]) (S := Gr S w w') hr (fun k hk => .inr (by
      have h6 := hr.lt k hk
      rcases h5 with h5 | h5
      · rw [h5] at hk
        cases hk
      · rw [h5] at hk
        have : w1.heap.size = k := Option.some.inj hk
        exact ⟨by omega, h6.2⟩))
    subst hv
    exact ⟨a', c', w', hrun, hro, (f.trans hf2).sub fun _ _ h => h.elim⟩
  · have hone1 : ∀ u ∈ [ig (x : Int)], u.oneCell' = true := by simp [Value.oneCell']
    by_cases hroom : l.length + 1 ≤ c
    · have hrun := run_append_room_cells (P := Try.prog) w1 29 29 3 i0 Try.underlying29 hi g o l.length c ⟨w.heap.size, 0, none⟩ 1 1 [ig (x : Int)] (by rw [hz1]; rfl) hnew hone1 hroom (fun j hj => by
        have hj0 : j = 0 := by simpa using hj
        subst hj0
        rw [hz1, h3.cell, Array.getElem?_eq_getElem (by omega)]
        rfl) (fun j hj => h3.frozen _)
      rw [hz1, Nat.mul_one] at hrun
      refine ⟨_, _, _, hrun, ?_, ?_⟩
      · refine .inr ⟨g, o, cur.setIfInBounds (o + l.length) (ig (x : Int)), rfl, .inl h2, h3.set_ (o + l.length) _, by rw [Array.size_setIfInBounds]; exact h4, by simp; omega, h6, fun i hi => ?_⟩
        rw [List.length_append, List.length_singleton] at hi
        rw [Array.getElem?_setIfInBounds]
        by_cases hil : i < l.length
        · rw [if_neg (by omega), h7 i hil, List.getElem?_map, List.getElem?_map, List.getElem?_append_left hil]
        · obtain rfl : i = l.length := by omega
          rw [if_pos rfl, if_pos (by omega), List.getElem?_map, List.getElem?_append_right (by omega)]
          simp
      · exact (f.sub fun _ _ h => h.elim).setCell (p := ⟨g, o + l.length, none⟩) (fun _ => h2) _
    · have holds : ∀ j u, (ign l)[j]? = some u → w1.cell? ((⟨g, o, none⟩ : Addr).add j) = some u := by
        intro j u hu
        have hj : j < l.length := by
          rcases Nat.lt_or_ge j l.length with h | h
          · exact h
          · rw [List.getElem?_eq_none (by simpa using h)] at hu; cases hu
        rw [add_plain, h3.cell, h7 j hj, hu]
      obtain ⟨v', w', hrun, hr, hg⟩ := run_append_arg_grows (P := Try.prog) w1 29 29 3 i0 (.int .i64 0) 1 8 Try.underlying29 hi hz0 hz1 hz2 rfl (by decide) ⟨g, o, none⟩ l.length c (ign l) (by simp) holds ⟨w.heap.size, 0, none⟩ 1 1 [ig (x : Int)] rfl hnew (by omega) (by unfold maxLen; omega) (by omega)
      have hf2 : Fr No w1 w' := Fr.grown hg (fun k hk => by cases hk)
      have hr' : w'.ownsRow w1.heap.size 3 1 v' (l ++ [x]).length (ign (l ++ [x])) := by
        rw [List.length_append, List.length_singleton, show ign (l ++ [x]) = ign l ++ [ig (x : Int)] by simp]
        exact hr
      obtain ⟨a', c', hv, hro⟩ := RowO.of_owns (S := Gr S w w') hr' (fun k hk => .inr (by
        have := hr.lt k hk
        exact ⟨by omega, this.2⟩))
      subst hv
      refine ⟨a', c', w', ?_, hro, (f.trans hf2).sub fun _ _ h => h.elim⟩
      rw [hrun]
      simp
end Go.Proofs.Ytmkadpjacidlkaa
namespace Go.Proofs.Ytmkadpjacidlkaa
set_option linter.unusedVariables false
open Go.RowKit

/-- THE DOCUMENT'S TABLE: its block X, the roles' block g, the queue; all its blocks are of S. -/
structure RfAt (w : World) (S : Nat → Prop) (X g : Nat) (a : Option Addr) (c : Nat) (b : Tb) : Prop where
  hd : At w X 31 #[.slice (some ⟨g, 0, none⟩) b.r.length b.r.length, .slice a b.q.length c]
  hr : At w g 3 (ign b.r).toArray
  ne : X ≠ g
  row : RowO w (fun k => S k ∧ k ≠ X ∧ k ≠ g) a c b.q
  sx : S X
  sg : S g
  lo : ∀ k, S k → k < w.heap.size
def Rf (X g : Nat) (b : Tb) (w : World) (S : Nat → Prop) : Prop := ∃ a c, RfAt w S X g a c b
theorem RfAt.keep {w w' : World} {S T : Nat → Prop} {X g : Nat} {a : Option Addr} {c : Nat} {b : Tb} (h : RfAt w S X g a c b) (f : Fr T w w') (hn : ∀ k, S k → ¬ T k) : RfAt w' S X g a c b :=
  ⟨h.hd.keep f (hn _ h.sx), h.hr.keep f (hn _ h.sg), h.ne, h.row.keep f (fun k hk => hn k hk.1), h.sx, h.sg, fun k hk => Nat.lt_of_lt_of_le (h.lo k hk) f.size⟩
theorem keepsRf (X g : Nat) (b : Tb) : Keeps (Rf X g b) := ⟨fun ⟨a, c, h⟩ f hn => ⟨a, c, h.keep f hn⟩⟩
theorem RfAt.cells {w : World} {S : Nat → Prop} {X g : Nat} {a : Option Addr} {c : Nat} {b : Tb} (h : RfAt w S X g a c b) : w.cell? ⟨X, 0, none⟩ = some (.slice (some ⟨g, 0, none⟩) b.r.length b.r.length) ∧ w.cell? ⟨X, 1, none⟩ = some (.slice a b.q.length c) ∧ w.frozen? ⟨X, 1, none⟩ = false :=
  ⟨h.hd.cell 0, h.hd.cell 1, h.hd.frozen 1⟩
theorem RfAt.role {w : World} {S : Nat → Prop} {X g : Nat} {a : Option Addr} {c : Nat} {b : Tb} (h : RfAt w S X g a c b) {k : Nat} (hk : k < b.r.length) : w.cell? ⟨g, k, none⟩ = some (.int .i64 ((b.r.getD k 0 : Nat) : Int)) := by
  rw [h.hr.cell, List.getElem?_toArray, List.getElem?_map, List.getElem?_eq_getElem hk, List.getD_eq_getElem?_getD, List.getElem?_eq_getElem hk]
  rfl
theorem RfAt.set_ {w : World} {S : Nat → Prop} {X g : Nat} {a : Option Addr} {c : Nat} {b : Tb} (h : RfAt w S X g a c b) (k x : Nat) :
    RfAt (w.setCell ⟨g, k, none⟩ (.int .i64 (x : Int))) S X g a c (setT b k x) ∧ Fr S w (w.setCell ⟨g, k, none⟩ (.int .i64 (x : Int))) := by
  have f : Fr (One g) w (w.setCell ⟨g, k, none⟩ (.int .i64 (x : Int))) := (Fr.refl (One g) w).setCell (p := ⟨g, k, none⟩) (fun _ => (rfl : g = g)) _
  refine ⟨⟨?_, ?_, h.ne, h.row.keep f fun k hk e => hk.2.2 e, h.sx, h.sg, fun k hk => by simpa [World.setCell] using h.lo k hk⟩, (Fr.refl S w).setCell (p := ⟨g, k, none⟩) (fun _ => h.sg) _⟩
  · have := h.hd.keep f h.ne
    show At _ X _ #[.slice (some ⟨g, 0, none⟩) (b.r.set k x).length (b.r.set k x).length, .slice a b.q.length c]
    rw [List.length_set]
    exact this
  · have := h.hr.set_ k (.int .i64 (x : Int))
    rw [List.setIfInBounds_toArray] at this
    show At _ g _ (ign (b.r.set k x)).toArray
    rw [show ign (b.r.set k x) = (ign b.r).set k (.int .i64 (x : Int)) from List.map_set]
    exact this
/-- The queue's slice is stored anew. -/
theorem RfAt.que {w w2 : World} {S : Nat → Prop} {X g : Nat} {a a' : Option Addr} {c c' : Nat} {b : Tb} {q : List Nat} (h : RfAt w S X g a c b) (hr : RowO w2 (Gr (fun k => S k ∧ k ≠ X ∧ k ≠ g) w w2) a' c' q) (f : Fr (fun k => S k ∧ k ≠ X ∧ k ≠ g) w w2) :
    w2.cell? ⟨X, 1, none⟩ = some (.slice a b.q.length c) ∧ w2.frozen? ⟨X, 1, none⟩ = false ∧
      RfAt (w2.setCell ⟨X, 1, none⟩ (.slice a' q.length c')) (Gr S w (w2.setCell ⟨X, 1, none⟩ (.slice a' q.length c'))) X g a' c' { r := b.r, q := q } ∧ Fr S w (w2.setCell ⟨X, 1, none⟩ (.slice a' q.length c')) := by
  have h1 := h.hd.keep f (fun hx => hx.2.1 rfl)
  have h2 := h.hr.keep f (fun hx => hx.2.2 rfl)
  have hs : (w2.setCell ⟨X, 1, none⟩ (.slice a' q.length c')).heap.size = w2.heap.size := by simp [World.setCell]
  have fx : Fr (One X) w2 (w2.setCell ⟨X, 1, none⟩ (.slice a' q.length c')) := (Fr.refl (One X) w2).setCell (p := ⟨X, 1, none⟩) (fun _ => (rfl : X = X)) _
  have hx := h.lo X h.sx
  have hg := h.lo g h.sg
  have hsz := f.size
  refine ⟨h1.cell 1, h1.frozen 1, ⟨h1.set_ 1 _, h2.keep fx (fun e => h.ne e.symm), h.ne, ?_, .inl h.sx, .inl h.sg, fun k hk => ?_⟩, ?_⟩
  · have hr2 : RowO w2 (fun k => Gr S w (w2.setCell ⟨X, 1, none⟩ (.slice a' q.length c')) k ∧ k ≠ X ∧ k ≠ g) a' c' q := hr.sub fun k _ hk => by
      rcases hk with hk | hk
      · exact ⟨.inl hk.1, hk.2⟩
      · exact ⟨.inr ⟨hk.1, by rw [hs]; exact hk.2⟩, by omega, by omega⟩
    exact hr2.keep fx fun k hk e => hk.2.1 e
  · rw [hs]
    rcases hk with hk | hk
    · have := h.lo k hk
      omega
    · rw [hs] at hk
      exact hk.2
  · exact (f.sub fun k _ hk => hk.1).setCell (p := ⟨X, 1, none⟩) (fun _ => h.sx) _
/-- Behind a call that works on the document's table. -/
def MoveR (X g : Nat) (S : Nat → Prop) (b : Tb) (v : Value) (w : World) (e : Ending) (w' : World) : Prop := e = .returned v ∧ ∃ S', Rf X g b w' S' ∧ (∀ k, S' k → S k ∨ (w.heap.size ≤ k ∧ k < w'.heap.size)) ∧ Fr S w w'
section
variable {w : World} {S : Nat → Prop} {X g : Nat} {b : Tb}
set_option maxHeartbeats 400000 in
theorem rfHas_c (h : Rf X g b w S) (z : Int) : Calls Try.prog 30 #[.pointer (some ⟨X, 0, none⟩), .int .i64 z] w fun e w' => e = .returned (.bool (hasT b z)) ∧ w = w' := by
  obtain ⟨a, c, h1⟩ := h
  obtain ⟨c0, _, _⟩ := h1.cells
  clear h1
  unfold hasT
  generalize b.r.length = n at *
  cases h1 : decide (0 ≤ z) <;> cases h2 : decide (z < (n : Int))
  all_goals
    go_enter Try.func30, Try.ntmps30
    go_wp2_with fail
    go_ret
    exact ⟨rfl, rfl⟩
theorem okRole_ways (x : Int) : (okRole x = true ∧ decide (x < 1) = false ∧ decide (5 < x) = false) ∨ (okRole x = false ∧ decide (x < 1) = true) ∨ (okRole x = false ∧ decide (x < 1) = false ∧ decide (5 < x) = true) := by
  unfold okRole
  by_cases h1 : x < 1
  · right; left
    exact ⟨by rw [decide_eq_false (by omega)]; rfl, decide_eq_true h1⟩
  · by_cases h2 : 5 < x
    · right; right
      exact ⟨by rw [decide_eq_false (show ¬ x ≤ 5 by omega), Bool.and_false], decide_eq_false h1, decide_eq_true h2⟩
    · left
      exact ⟨by rw [decide_eq_true (by omega), decide_eq_true (by omega)]; rfl, decide_eq_false h1, decide_eq_false h2⟩
set_option maxHeartbeats 800000 in
theorem rfOwn_c (h : Rf X g b w S) (z x : Int) : Calls Try.prog 10 #[.pointer (some ⟨X, 0, none⟩), .int .i64 z, .int .i64 x] w (MoveR X g S (ownT b z x) (.int .i64 (ownE b z x)) w) := by
  have C := Lib.hid (rfHas_c h z)
  have HE : Hid (ownE b z x = if !hasT b z then 70 else if !okRole x || !(rolT b z == 0) then 80 else 0) := Lib.hid rfl
  have HN : Hid (ownE b z x ≠ 0 → MoveR X g S (ownT b z x) (.int .i64 (ownE b z x)) w (.returned (.int .i64 (ownE b z x))) w) := Lib.hid fun h0 => ⟨rfl, S, by unfold ownT; rw [if_neg h0]; exact h, fun k hk => .inl hk, Fr.refl _ _⟩
  obtain ⟨a, c, h1⟩ := h
  obtain ⟨c0, _, _⟩ := h1.cells
  cases hH : hasT b z with
  | false =>
    rw [hH] at C HE
    clear h1 hH
    go_enter Try.func10, Try.ntmps10
    go_wp2_with fail
    refine C.out.mono ?_
    rintro e w' ⟨rfl, rfl⟩
    go_wp2_with fail
    go_ret
    rw [show (70 : Int) = ownE b z x by rw [HE.out]; rfl]
    exact HN.out (by rw [HE.out]; simp)
  | true =>
    rw [hH] at C HE
    obtain ⟨h5, h6⟩ := hasT_iff.1 hH
    have hc := h1.role h6
    obtain ⟨k, rfl⟩ : ∃ k : Nat, z = (k : Int) := ⟨z.toNat, by omega⟩
    rw [Int.toNat_natCast] at hc h6
    have hfz := h1.hr.frozen k
    rcases okRole_ways x with ⟨hO, d1, d2⟩ | hO
    · rw [hO] at HE
      by_cases hz : b.r.getD k 0 = 0
      · rw [hz] at hc
        have hx := okRole_iff.1 hO
        obtain ⟨x, rfl⟩ : ∃ y : Nat, x = (y : Int) := ⟨x.toNat, by omega⟩
        have HR := Lib.hid (h1.set_ k x)
        have HE0 : Hid (ownE b (k : Int) (x : Int) = 0) := Lib.hid (by rw [HE.out]; unfold rolT; rw [Int.toNat_natCast, hz]; rfl)
        clear h1 hH h5 hO HN
        generalize b.r.length = n at *
        go_enter Try.func10, Try.ntmps10
        go_wp2_with fail
        refine C.out.mono ?_
        rintro e w' ⟨rfl, rfl⟩
        go_wp2_with fail
        go_ret
        refine ⟨by rw [HE0.out]; rfl, S, ?_, fun k hk => .inl hk, HR.out.2⟩
        unfold ownT
        rw [if_pos HE0.out, Int.toNat_natCast, Int.toNat_natCast]
        exact ⟨a, c, HR.out.1⟩
      · have d0 : (((b.r.getD k 0 : Nat) : Int) == 0) = false := by rw [beq_eq_false_iff_ne]; omega
        have HE8 : Hid (ownE b (k : Int) x = 80) := Lib.hid (by
          rw [HE.out]
          unfold rolT
          rw [Int.toNat_natCast, show (b.r.getD k 0 == 0) = false by rw [beq_eq_false_iff_ne]; exact hz]
          rfl)
        clear h1 hH h5 hO hz
        generalize b.r.length = n at *
        generalize ((b.r.getD k 0 : Nat) : Int) = y at *
        go_enter Try.func10, Try.ntmps10
        go_wp2_with fail
        refine C.out.mono ?_
        rintro e w' ⟨rfl, rfl⟩
        go_wp2_with fail
        go_ret
        rw [show (80 : Int) = ownE b (k : Int) x by rw [HE8.out]]
        exact HN.out (by rw [HE8.out]; decide)
    · have HE8 : Hid (ownE b (k : Int) x = 80) := Lib.hid (by
        rw [HE.out]
        have : okRole x = false := hO.elim (fun h => h.1) (fun h => h.1)
        rw [this]
        rfl)
      clear h1 hH h5
      generalize b.r.length = n at *
      rcases hO with ⟨_, d1⟩ | ⟨_, d1, d2⟩
      all_goals
        go_enter Try.func10, Try.ntmps10
        go_wp2_with fail
        refine C.out.mono ?_
        rintro e w' ⟨rfl, rfl⟩
        go_wp2_with fail
        go_ret
        rw [show (80 : Int) = ownE b (k : Int) x by rw [HE8.out]]
        exact HN.out (by rw [HE8.out]; decide)
end
end Go.Proofs.Ytmkadpjacidlkaa
namespace Go.Proofs.Ytmkadpjacidlkaa
set_option linter.unusedVariables false
open Go.RowKit

abbrev qs8 (l : List Nat) : List Int := l.map fun (x : Nat) => (x : Int)
section
variable {w : World} {S : Nat → Prop} {X g : Nat} {b : Tb}
/-- A zone is queued: the role is stored, the zone is appended, the slice is stored. -/
theorem rf_enq {a : Option Addr} {c : Nat} (h : RfAt w S X g a c b) (k : Nat) (hb : b.q.length < 100000) :
    ∃ a' c' w2, (Builtin.append_ #[29, 29] 29 #[.slice a b.q.length c, .slice (some ⟨w.heap.size, 0, none⟩) 1 1]).run Try.prog ((w.setCell ⟨g, k, none⟩ (.int .i64 6)).alloc (.cells #[.int .i64 (k : Int)] 3)) = .ok (.slice a' (b.q.length + 1) c') w2 ∧
      w2.cell? ⟨X, 1, none⟩ = some (.slice a b.q.length c) ∧ w2.frozen? ⟨X, 1, none⟩ = false ∧ Rf X g { r := b.r.set k 6, q := b.q ++ [k] } (w2.setCell ⟨X, 1, none⟩ (.slice a' (b.q.length + 1) c')) (Gr S w (w2.setCell ⟨X, 1, none⟩ (.slice a' (b.q.length + 1) c'))) ∧
      Fr S w (w2.setCell ⟨X, 1, none⟩ (.slice a' (b.q.length + 1) c')) ∧ (w.setCell ⟨g, k, none⟩ (.int .i64 6)).cell? ⟨X, 1, none⟩ = some (.slice a b.q.length c) := by
  obtain ⟨h1, f1⟩ := h.set_ k 6
  obtain ⟨W1, hW1⟩ : ∃ W1, w.setCell ⟨g, k, none⟩ (.int .i64 6) = W1 := ⟨_, rfl⟩
  have hs1 : W1.heap.size = w.heap.size := by rw [← hW1]; simp [World.setCell]
  have hW1' : w.setCell ⟨g, k, none⟩ (.int .i64 ((6 : Nat) : Int)) = W1 := hW1
  rw [hW1'] at h1 f1
  rw [hW1]
  obtain ⟨a', c', w2, hrun, hro, hf⟩ := h1.row.push (fun x hx => h1.lo x hx.1) k hb
  rw [hs1] at hrun
  obtain ⟨e1, e2, e3, e4⟩ := h1.que (q := b.q ++ [k]) hro hf
  rw [List.length_append, List.length_singleton] at e3 e4
  refine ⟨a', c', w2, hrun, e1, e2, ⟨a', c', ?_⟩, f1.trans e4, h1.hd.cell 1⟩
  have hg : ∀ W, Gr S W1 W = Gr S w W := fun W => by unfold Gr; rw [hs1]
  rw [hg] at e3
  exact e3
set_option maxHeartbeats 800000 in
theorem rfRelease_c (h : Rf X g b w S) (hw : WT b) (z : Int) : Calls Try.prog 12 #[.pointer (some ⟨X, 0, none⟩), .int .i64 z] w (MoveR X g S (relT b z) (.int .i64 (relE b z)) w) := by
  have C := Lib.hid (rfHas_c h z)
  have HE : Hid (relE b z = if !hasT b z then 70 else if !okRole (rolT b z : Int) then 80 else 0) := Lib.hid rfl
  have HN : Hid (relE b z ≠ 0 → MoveR X g S (relT b z) (.int .i64 (relE b z)) w (.returned (.int .i64 (relE b z))) w) := Lib.hid fun h0 => ⟨rfl, S, by unfold relT; rw [if_neg h0]; exact h, fun k hk => .inl hk, Fr.refl _ _⟩
  obtain ⟨a, c, h1⟩ := h
  obtain ⟨c0, c1, _⟩ := h1.cells
  cases hH : hasT b z with
  | false =>
    rw [hH] at C HE
    clear h1 hH c1
    go_enter Try.func12, Try.ntmps12
    go_wp2_with fail
    refine C.out.mono ?_
    rintro e w' ⟨rfl, rfl⟩
    go_wp2_with fail
    go_ret
    rw [show (70 : Int) = relE b z by rw [HE.out]; rfl]
    exact HN.out (by rw [HE.out]; simp)
  | true =>
    rw [hH] at C HE
    obtain ⟨h5, h6⟩ := hasT_iff.1 hH
    have hc := h1.role h6
    have hql : b.q.length ≤ 64 := by
      have h7 : ∀ x ∈ b.q, x ∈ List.range 64 := fun x hx => by
        have h7 := ((hw.qr x).1 hx).1
        have h8 := hw.n64
        exact List.mem_range.2 (by omega)
      have h8 := List.Nodup.length_le_of_subset hw.nd h7
      rw [List.length_range] at h8
      omega
    obtain ⟨k, rfl⟩ : ∃ k : Nat, z = (k : Int) := ⟨z.toNat, by omega⟩
    rw [Int.toNat_natCast] at hc h6
    have hfz := h1.hr.frozen k
    have hz : rolT b (k : Int) = b.r.getD k 0 := rfl
    rw [hz] at HE
    rcases okRole_ways ((b.r.getD k 0 : Nat) : Int) with ⟨hO, d1, d2⟩ | hO
    · rw [hO] at HE
      obtain ⟨a', c', w2, hrun, e1, e2, e3, e4, e5⟩ := rf_enq h1 k (by omega)
      have e0 : relE b (k : Int) = 0 := by rw [HE.out]; rfl
      have HR : Hid (MoveR X g S (relT b (k : Int)) (.int .i64 (relE b (k : Int))) w (.returned (.int .i64 (relE b (k : Int)))) (w2.setCell ⟨X, 1, none⟩ (.slice a' (b.q.length + 1) c'))) := Lib.hid ⟨rfl, _, by
        unfold relT
        rw [if_pos e0, Int.toNat_natCast]
        exact e3, fun k hk => hk, e4⟩
      have HRUN := Lib.hid hrun
      rw [e0] at HR
      rw [e0]
      clear h1 hH h5 hO HN hw e3 e4 hrun e0 hql
      generalize b.r.length = n at *
      generalize b.q.length = nq at *
      generalize ((b.r.getD k 0 : Nat) : Int) = y at *
      go_enter Try.func12, Try.ntmps12
      go_wp2_with fail
      refine C.out.mono ?_
      rintro e w' ⟨rfl, rfl⟩
      go_wp2_with (at_builtin; refine wpList_append_run rfl _ _ 29 rfl rfl rfl HRUN.out ?_)
      go_ret
      exact HR.out
    · have HE8 : Hid (relE b (k : Int) = 80) := Lib.hid (by
        rw [HE.out]
        have : okRole ((b.r.getD k 0 : Nat) : Int) = false := hO.elim (fun h => h.1) (fun h => h.1)
        rw [this]
        rfl)
      clear h1 hH h5 hw c1 hql
      generalize b.r.length = n at *
      generalize ((b.r.getD k 0 : Nat) : Int) = y at *
      rcases hO with ⟨_, d1⟩ | ⟨_, d1, d2⟩
      all_goals
        go_enter Try.func12, Try.ntmps12
        go_wp2_with fail
        refine C.out.mono ?_
        rintro e w' ⟨rfl, rfl⟩
        go_wp2_with fail
        go_ret
        rw [show (80 : Int) = relE b (k : Int) by rw [HE8.out]]
        exact HN.out (by rw [HE8.out]; decide)
set_option maxRecDepth 20000 in
set_option maxHeartbeats 1600000 in
theorem rfTake_c (h : Rf X g b w S) (hw : WT b) (x : Int) : Calls Try.prog 8 #[.pointer (some ⟨X, 0, none⟩), .int .i64 x] w (MoveR X g S (takT b x) (.tuple #[.int .i64 (takZ b x), .int .i64 (takE b x)]) w) := by
  have HN : Hid (takE b x ≠ 0 → MoveR X g S (takT b x) (.tuple #[.int .i64 (takZ b x), .int .i64 (takE b x)]) w (.returned (.tuple #[.int .i64 0, .int .i64 (takE b x)])) w) := Lib.hid fun h0 => ⟨by unfold takZ; rw [if_neg h0], S, by unfold takT; rw [if_neg h0]; exact h, fun k hk => .inl hk, Fr.refl _ _⟩
  rcases okRole_ways x with ⟨hO, d1, d2⟩ | hO
  · have hx := okRole_iff.1 hO
    have hn64 := hw.n64
    obtain ⟨a, c, h1⟩ := h
    obtain ⟨c0, c1, _⟩ := h1.cells
    have H1 := Lib.hid h1
    obtain ⟨n, hn⟩ : ∃ n, b.r.length = n := ⟨_, rfl⟩
    rw [hn] at c0 hn64
    have HNL := Lib.hid hn
    have HO := Lib.hid hO
    clear h1 hw hn hO c1
    go_enter Try.func8, Try.ntmps8
    go_wp2_with fail
    clear d1 d2
    go_loopw [6] (fun i wr => ∃ k : Nat, i = .int .i64 k ∧ k ≤ n ∧ wr = w ∧ ∀ i, i < k → b.r.getD i 0 ≠ 0) (fun i _ => n - (intOf i).toNat)
    case atStart => exact ⟨0, rfl, Nat.zero_le _, rfl, fun i h => absurd h (Nat.not_lt_zero i)⟩
    case round =>
      obtain ⟨k, rfl, hk, rfl, hlo⟩ := hrel
      have HLO := Lib.hid hlo
      clear hlo
      by_cases h2 : k < n
      · have d1 : decide ((k : Int) < (n : Int)) = true := by rw [decide_eq_true_eq]; omega
        have hkl : k < b.r.length := by rw [HNL.out]; exact h2
        have hc := H1.out.role hkl
        by_cases hz : b.r.getD k 0 = 0
        · have hfr : freeT b = k := by
            rcases Nat.lt_trichotomy (freeT b) k with h | h | h
            · exact absurd (free_at (show freeT b < b.r.length by omega)) (HLO.out _ h)
            · exact h
            · exact absurd hz (free_low h)
          have E1 : takE b x = 0 := by unfold takE; rw [HO.out, hfr, decide_eq_true hkl]; rfl
          have E2 : takZ b x = (k : Int) := by unfold takZ; rw [if_pos E1, hfr]
          have E3 : takT b x = setT b k x.toNat := by unfold takT; rw [if_pos E1, hfr]
          rw [E1, E2, E3]
          rw [hz] at hc
          have hfz := H1.out.hr.frozen k
          obtain ⟨x, rfl⟩ : ∃ y : Nat, x = (y : Int) := ⟨x.toNat, by omega⟩
          have HR := Lib.hid (H1.out.set_ k x)
          clear HN E1 E2 E3 hz hfr hkl
          go_wp2_with fail
          go_ret2
          exact ⟨rfl, S, by rw [Int.toNat_natCast]; exact ⟨a, c, HR.out.1⟩, fun k hk => .inl hk, HR.out.2⟩
        · have d0 : (((b.r.getD k 0 : Nat) : Int) == 0) = false := by rw [beq_eq_false_iff_ne]; omega
          have HL2 : Hid (∀ i, i < k + 1 → b.r.getD i 0 ≠ 0) := Lib.hid fun i hi => by
            rcases Nat.lt_or_ge i k with h | h
            · exact HLO.out i h
            · obtain rfl : i = k := by omega
              exact hz
          clear hz hkl
          generalize ((b.r.getD k 0 : Nat) : Int) = y at *
          go_wp2_with fail
          go_roundw
          case rel => exact ⟨k + 1, by simp, by omega, trivial, HL2.out⟩
          case measure => simp [intOf]; omega
      · obtain rfl : k = n := by omega
        have d1 : decide ((k : Int) < (k : Int)) = false := by simp
        have E1 : takE b x = 81 := by
          unfold takE
          rw [HO.out, decide_eq_false (fun hlt => HLO.out _ (by rw [← HNL.out]; exact hlt) (free_at hlt))]
          rfl
        have HR := Lib.hid (HN.out (by rw [E1]; decide))
        have HE1 := Lib.hid E1
        clear HN E1
        go_wp2_with fail
        go_ret2
        have := HR.out
        rw [HE1.out] at this
        rw [HE1.out]
        exact this
  · have E1 : takE b x = 80 := by
      unfold takE
      have : okRole x = false := hO.elim (fun h => h.1) (fun h => h.1)
      rw [this]
      rfl
    have HR := Lib.hid (HN.out (by rw [E1]; decide))
    rw [E1] at HR
    rw [E1]
    clear h HN E1
    rcases hO with ⟨_, d1⟩ | ⟨_, d1, d2⟩
    all_goals
      go_enter Try.func8, Try.ntmps8
      go_wp2_with fail
      go_ret2
      exact HR.out
/-- The zones of a role below k. -/
def lisT (b : Tb) (x : Int) (k : Nat) : List Nat := (List.range k).filter fun z => ((b.r.getD z 0 : Nat) : Int) == x
theorem lis_yes {b : Tb} {x : Int} {k : Nat} (h : (((b.r.getD k 0 : Nat) : Int) == x) = true) : lisT b x (k + 1) = lisT b x k ++ [k] := by
  unfold lisT
  rw [List.range_succ, List.filter_append, List.filter_cons, if_pos h, List.filter_nil]
theorem lis_no {b : Tb} {x : Int} {k : Nat} (h : (((b.r.getD k 0 : Nat) : Int) == x) = false) : lisT b x (k + 1) = lisT b x k := by
  unfold lisT
  rw [List.range_succ, List.filter_append, List.filter_cons, if_neg (by rw [h]; decide), List.filter_nil, List.append_nil]
theorem lis_len (b : Tb) (x : Int) (k : Nat) : (lisT b x k).length ≤ k ∧ ∀ z ∈ lisT b x k, z < k := by
  unfold lisT
  refine ⟨?_, fun z hz => List.mem_range.1 (List.mem_filter.1 hz).1⟩
  have := List.length_filter_le (fun z => ((b.r.getD z 0 : Nat) : Int) == x) (List.range k)
  rw [List.length_range] at this
  exact this
set_option maxRecDepth 20000 in
set_option maxHeartbeats 1600000 in
theorem rfList_c (h : Rf X g b w S) (hw : WT b) (x : Int) : Calls Try.prog 23 #[.pointer (some ⟨X, 0, none⟩), .int .i64 x] w (IntsRet (listT b x) w) := by
  have hn64 := hw.n64
  obtain ⟨a, c, h1⟩ := h
  obtain ⟨c0, c1, _⟩ := h1.cells
  have H1 := Lib.hid h1
  obtain ⟨n, hn⟩ : ∃ n, b.r.length = n := ⟨_, rfl⟩
  rw [hn] at c0 hn64
  have HNL := Lib.hid hn
  have HLT : Hid (listT b x = lisT b x n) := Lib.hid (by unfold listT lisT; rw [hn])
  have hX := h1.hd.lt
  have hG := h1.hr.lt
  clear h1 hw hn c1
  go_enter Try.func23, Try.ntmps23
  go_wp2_with fail
  go_loopw [5, 6] (fun v i wr => ∃ k : Nat, i = .int .i64 k ∧ k ≤ n ∧ ∃ T, RowI wr T v (qs8 (lisT b x k)) ∧ (∀ y, T y → w.heap.size ≤ y ∧ y < wr.heap.size) ∧ Fr No w wr) (fun _ i _ => n - (intOf i).toNat)
  case atStart => exact ⟨0, rfl, Nat.zero_le _, No, RowI.nil _ _, fun y h => h.elim, Fr.refl _ _⟩
  case round =>
    obtain ⟨k, rfl, hk, T, hrow, hT, hf⟩ := hrel
    have c0 := hf.cell c0 (fun h => h)
    have HT := Lib.hid hT
    have HF := Lib.hid hf
    obtain ⟨va, vc, rfl, hvc, hvm, hin⟩ := hrow.form
    have HROW := Lib.hid hrow
    clear hrow hT hf hin
    by_cases h2 : k < n
    · have d1 : decide ((k : Int) < (n : Int)) = true := by rw [decide_eq_true_eq]; omega
      have hkl : k < b.r.length := by rw [HNL.out]; exact h2
      have hc := HF.out.cell (H1.out.role hkl) (fun h => h)
      cases hz : (((b.r.getD k 0 : Nat) : Int) == x) with
      | true =>
        have hl := lis_len b x k
        obtain ⟨v4, w4, hrun, hrow4, hf4⟩ := HROW.out.push (fun y hy => (HT.out y hy).2) (k : Int) (by simp [qs8]; omega)
        rw [show qs8 (lisT b x k) ++ [(k : Int)] = qs8 (lisT b x (k + 1)) by rw [lis_yes hz]; simp [qs8]] at hrow4
        have HRUN := Lib.hid hrun
        have HREL := Lib.hid (And.intro hrow4 hf4)
        clear hrun hrow4 hf4 hl hkl
        generalize ((b.r.getD k 0 : Nat) : Int) = y at *
        generalize (qs8 (lisT b x k)).length = ln at *
        go_wp2_with (at_builtin; refine wpList_append_run rfl _ _ 29 rfl rfl rfl HRUN.out ?_)
        go_roundw
        case rel => exact ⟨k + 1, by simp, by omega, _, HREL.out.1, fun y hy => by
          have h5 := HREL.out.2.size
          have h6 := HF.out.size
          rcases hy with hy | hy
          · have := HT.out y hy
            exact ⟨this.1, by omega⟩
          · exact ⟨by omega, hy.2⟩, HF.out.then_ HREL.out.2 (fun y hy h => absurd (HT.out y h).1 (by omega))⟩
        case measure => simp [intOf]; omega
      | false =>
        have HST := Lib.hid (lis_no hz)
        clear hkl
        generalize ((b.r.getD k 0 : Nat) : Int) = y at *
        generalize (qs8 (lisT b x k)).length = ln at *
        go_wp2_with fail
        go_roundw
        case rel => exact ⟨k + 1, by simp, by omega, T, by rw [HST.out]; exact HROW.out, HT.out, HF.out⟩
        case measure => simp [intOf]; omega
    · obtain rfl : k = n := by omega
      have d1 : decide ((k : Int) < (k : Int)) = false := by simp
      have HR : Hid (IntsRet (listT b x) w (.returned (.slice va (qs8 (lisT b x k)).length vc)) wr) := Lib.hid (by
        rw [HLT.out]
        have hl := lis_len b x k
        obtain ⟨a', c', hv, h5, h6, h7⟩ := HROW.out.ints (fun y hy => by
          obtain ⟨z, hz, rfl⟩ := List.mem_map.1 hy
          have := hl.2 z hz
          exact wf_small (by omega) (by omega))
        have el : (qs8 (lisT b x k)).length = (lisT b x k).length := by simp [qs8]
        simp only [Value.slice.injEq, true_and] at hv
        obtain ⟨rfl, rfl⟩ := hv
        exact ⟨va, vc, by rw [el], by rw [← el]; exact h5, h6, h7, HF.out⟩)
      generalize (qs8 (lisT b x k)).length = ln at *
      go_wp2_with fail
      go_ret
      exact HR.out
end
end Go.Proofs.Ytmkadpjacidlkaa
