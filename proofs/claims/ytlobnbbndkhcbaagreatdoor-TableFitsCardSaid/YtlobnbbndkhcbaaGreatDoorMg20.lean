/-
  Texts of layer 13 and of what it stands on, one behind the other.
-/
import Derived.Test.YtlobnbbndkhcbaaGreatDoorMg17
import Derived.Test.YtlobnbbndkhcbaaGreatDoorMg19
import Derived.Test.YtlobnbbndkhcbaaGreatDoorMg09

/- Layer 12, the program's own: what pack keeps from round to round. -/
namespace Go.Proofs.YtlobnbbndkhcbaaGreatDoor
set_option linter.unusedVariables false
open Go.RowKit Go.Shelf

/-- Two rows beside each other, bytes and numbers, in blocks of B and above. -/
structure BX (B : Nat) (wr : World) (vo vs : Value) (p : List UInt8) (q : List Int) : Prop where
  out : Row wr (Own1 vo) vo p
  starts : RowI wr (Own1 vs) vs q
  newo : ∀ k, vo.ownBlock = some k → B ≤ k
  news : ∀ k, vs.ownBlock = some k → B ≤ k
  apart : ∀ k, vo.ownBlock = some k → vs.ownBlock = some k → False
theorem BX.start (B : Nat) (w : World) : BX B w (.slice none 0 0) (.slice none 0 0) [] [] :=
  ⟨Row.nil _ _, RowI.nil _ _, fun k h => by simp [Value.ownBlock] at h, fun k h => by simp [Value.ownBlock] at h, fun k h => by simp [Value.ownBlock] at h⟩
theorem BX.keep {B : Nat} {wr w' : World} {T : Nat → Prop} {vo vs : Value} {p : List UInt8} {q : List Int} (h : BX B wr vo vs p q) (f : Fr T wr w') (hT : ∀ k, T k → k < B) : BX B w' vo vs p q :=
  ⟨h.out.keep f fun k h1 h2 => by have := h.newo k h1; have := hT k h2; omega, h.starts.keep f fun k h1 h2 => by have := h.news k h1; have := hT k h2; omega, h.newo, h.news, h.apart⟩
theorem BX.ltS {B : Nat} {wr : World} {vo vs : Value} {p : List UInt8} {q : List Int} (h : BX B wr vo vs p q) (k : Nat) (hk : vs.ownBlock = some k) : k < wr.heap.size := (h.starts.1.lt k hk).2
theorem BX.ltO {B : Nat} {wr : World} {vo vs : Value} {p : List UInt8} {q : List Int} (h : BX B wr vo vs p q) (k : Nat) (hk : vo.ownBlock = some k) : k < wr.heap.size := (h.out.1.lt k hk).2
theorem BX.own {B D : Nat} {W W' : World} {row : Option Nat} {vo vs : Value} {p : List UInt8} {q : List Int} (h : BX B W vo vs p q) (hg : W.grownBy W' row) (hr : Turns D W row) : BX B W' vo vs p q :=
  ⟨own_row h.out hg hr, own_rowI h.starts hg hr, h.newo, h.news, h.apart⟩
theorem BX.more {B : Nat} {wr : World} {vo vs : Value} {p : List UInt8} {q : List Int} (h : BX B wr vo vs p q) (hB : B ≤ wr.heap.size) (a : Option Addr) (m c : Nat) (news : List UInt8) (hm : news.length = m) (hr : Rd wr a news) (hb : p.length + m ≤ 140737488355328) :
    ∃ v' w', (Builtin.append_ #[27, 27] 27 #[vo, .slice a m c]).run Tryz.prog wr = .ok v' w' ∧ BX B w' v' vs (p ++ news) q ∧ Fr (Own1 vo) wr w' := by
  obtain ⟨v', w', h1, h2, h3⟩ := h.out.append a m c news hm hr hb
  refine ⟨v', w', h1, ⟨⟨h2.1, fun _ hk => hk⟩, h.starts.keep h3 fun k h4 h5 => h.apart k h5 h4, fun k hk => ?_, h.news, fun k h4 h5 => ?_⟩, h3⟩
  · rcases h2.2 k hk with h4 | h4
    · exact h.newo k h4
    · omega
  · rcases h2.2 k h4 with h6 | h6
    · exact h.apart k h6 h5
    · have := h.ltS k h5
      omega
theorem BX.push {B : Nat} {wr : World} {vo vs : Value} {p : List UInt8} {q : List Int} (h : BX B wr vo vs p q) (hB : B ≤ wr.heap.size) (x : Int) (hb : q.length < 1000000) :
    ∃ v' w', (Builtin.append_ #[43, 43] 43 #[vs, .slice (some ⟨wr.heap.size, 0, none⟩) 1 1]).run Tryz.prog (wr.alloc (.cells #[.int .i64 x] 3)) = .ok v' w' ∧ BX B w' vo v' p (q ++ [x]) ∧ Fr (Own1 vs) wr w' := by
  obtain ⟨v', w', h1, h2, h3⟩ := h.starts.push (fun k hk => h.ltS k hk) x hb
  refine ⟨v', w', h1, ⟨h.out.keep h3 fun k h4 h5 => h.apart k h4 h5, ⟨h2.1, fun _ hk => hk⟩, h.newo, fun k hk => ?_, fun k h4 h5 => ?_⟩, h3⟩
  · rcases h2.2 k hk with h4 | h4
    · exact h.news k h4
    · omega
  · rcases h2.2 k h5 with h6 | h6
    · exact h.apart k h4 h6
    · have := h.ltO k h4
      omega
/-- No row is a box of pairs. -/
theorem BX.notPair {B : Nat} {wr : World} {vo vs : Value} {p : List UInt8} {q : List Int} (h : BX B wr vo vs p q) {k : Nat} (hk : vo.ownBlock = some k ∨ vs.ownBlock = some k) {cs : Array Value} {fz : Nat × Nat} (hc : wr.heap[k]? = some (.cells cs 74 fz)) : False := by
  rcases hk with hk | hk
  · obtain ⟨⟨_, h9⟩, _⟩ := h.out
    rcases h9 with ⟨rfl, _⟩ | ⟨g, cc, cur, rfl, _, hg, _⟩
    · simp [Value.ownBlock] at hk
    · cases Option.some.inj hk
      rw [hg] at hc
      cases hc
  · obtain ⟨⟨_, h9⟩, _⟩ := h.starts
    rcases h9 with ⟨rfl, _⟩ | ⟨g, cc, cur, rfl, _, hg, _⟩
    · simp [Value.ownBlock] at hk
    · cases Option.some.inj hk
      rw [hg] at hc
      cases hc

/-- The boxes of a pack. -/
structure PkS (w : World) (e : Nat) (rv bv : Value) (c : Nat) (ah : ByteArray) (W : World) : Prop where
  b0 : At W w.heap.size 3 #[.int .i64 (e : Int)]
  b1 : At W (w.heap.size + 1) 165 #[.pointer none]
  b2 : At W (w.heap.size + 1 + 1) 28 #[.int .i64 0]
  b3 : At W (w.heap.size + 1 + 1 + 1) 183 #[.string ⟨#[]⟩, rv, .int .i64 (c : Int), .int .i64 (e : Int)]
  b4 : At W (w.heap.size + 1 + 1 + 1 + 1) 165 #[.pointer (some ⟨w.heap.size + 1 + 1 + 1, 0, none⟩)]
  b5 : At W (w.heap.size + 1 + 1 + 1 + 1 + 1) 27 #[bv]
  b6 : At W (w.heap.size + 1 + 1 + 1 + 1 + 1 + 1) 9 #[.string ah]
theorem PkS.keep {w W W' : World} {T : Nat → Prop} {e c : Nat} {rv bv : Value} {ah : ByteArray} (h : PkS w e rv bv c ah W) (f : Fr T W W') (hT : ∀ k, T k → w.heap.size + 7 ≤ k) : PkS w e rv bv c ah W' :=
  have n : ∀ k, k < w.heap.size + 7 → ¬ T k := fun k hk h => by have := hT k h; omega
  ⟨h.b0.keep f (n _ (by omega)), h.b1.keep f (n _ (by omega)), h.b2.keep f (n _ (by omega)), h.b3.keep f (n _ (by omega)), h.b4.keep f (n _ (by omega)), h.b5.keep f (n _ (by omega)), h.b6.keep f (n _ (by omega))⟩
theorem PkS.own {w W W' : World} {row : Option Nat} {D : Nat} {e c : Nat} {rv bv : Value} {ah : ByteArray} (h : PkS w e rv bv c ah W) (hg : W.grownBy W' row) (hr : Turns D W row) : PkS w e rv bv c ah W' :=
  ⟨own_at h.b0 hg hr, own_at h.b1 hg hr, own_at h.b2 hg hr, own_at h.b3 hg hr, own_at h.b4 hg hr, own_at h.b5 hg hr, own_at h.b6 hg hr⟩
theorem fr_one (W : World) (g i : Nat) (u : Value) : Fr (One g) W (W.setCell ⟨g, i, none⟩ u) := (Fr.refl (One g) W).setCell (p := ⟨g, i, none⟩) (fun _ => rfl) u
section
variable {w W : World} {e c : Nat} {rv bv : Value} {ah : ByteArray}
theorem PkS.setAh (h : PkS w e rv bv c ah W) (u : ByteArray) : PkS w e rv bv c u (W.setCell ⟨w.heap.size + 1 + 1 + 1 + 1 + 1 + 1, 0, none⟩ (.string u)) :=
  have f := fr_one W (w.heap.size + 1 + 1 + 1 + 1 + 1 + 1) 0 (.string u)
  have n : ∀ k, k ≠ w.heap.size + 1 + 1 + 1 + 1 + 1 + 1 → ¬ One (w.heap.size + 1 + 1 + 1 + 1 + 1 + 1) k := fun k hk h => hk h
  ⟨h.b0.keep f (n _ (by omega)), h.b1.keep f (n _ (by omega)), h.b2.keep f (n _ (by omega)), h.b3.keep f (n _ (by omega)), h.b4.keep f (n _ (by omega)), h.b5.keep f (n _ (by omega)), h.b6.set_ 0 _⟩
theorem PkS.setB (h : PkS w e rv bv c ah W) (u : Value) : PkS w e rv u c ah (W.setCell ⟨w.heap.size + 1 + 1 + 1 + 1 + 1, 0, none⟩ u) :=
  have f := fr_one W (w.heap.size + 1 + 1 + 1 + 1 + 1) 0 u
  have n : ∀ k, k ≠ w.heap.size + 1 + 1 + 1 + 1 + 1 → ¬ One (w.heap.size + 1 + 1 + 1 + 1 + 1) k := fun k hk h => hk h
  ⟨h.b0.keep f (n _ (by omega)), h.b1.keep f (n _ (by omega)), h.b2.keep f (n _ (by omega)), h.b3.keep f (n _ (by omega)), h.b4.keep f (n _ (by omega)), h.b5.set_ 0 _, h.b6.keep f (n _ (by omega))⟩
theorem PkS.setR (h : PkS w e rv bv c ah W) (u : Value) : PkS w e u bv c ah (W.setCell ⟨w.heap.size + 1 + 1 + 1, 1, none⟩ u) :=
  have f := fr_one W (w.heap.size + 1 + 1 + 1) 1 u
  have n : ∀ k, k ≠ w.heap.size + 1 + 1 + 1 → ¬ One (w.heap.size + 1 + 1 + 1) k := fun k hk h => hk h
  ⟨h.b0.keep f (n _ (by omega)), h.b1.keep f (n _ (by omega)), h.b2.keep f (n _ (by omega)), h.b3.set_ 1 _, h.b4.keep f (n _ (by omega)), h.b5.keep f (n _ (by omega)), h.b6.keep f (n _ (by omega))⟩
theorem PkS.setC (h : PkS w e rv bv c ah W) (u : Nat) : PkS w e rv bv u ah (W.setCell ⟨w.heap.size + 1 + 1 + 1, 2, none⟩ (.int .i64 (u : Int))) :=
  have f := fr_one W (w.heap.size + 1 + 1 + 1) 2 (.int .i64 (u : Int))
  have n : ∀ k, k ≠ w.heap.size + 1 + 1 + 1 → ¬ One (w.heap.size + 1 + 1 + 1) k := fun k hk h => hk h
  ⟨h.b0.keep f (n _ (by omega)), h.b1.keep f (n _ (by omega)), h.b2.keep f (n _ (by omega)), h.b3.set_ 2 _, h.b4.keep f (n _ (by omega)), h.b5.keep f (n _ (by omega)), h.b6.keep f (n _ (by omega))⟩
end
def keyAt (L : List Pr) (k : Nat) : ByteArray := if k = 0 then emp else (L.getD (k - 1) pr0).key
/-! ### Pairs, one more. -/
theorem getD_app1 (l : List Pr) (x : Pr) {j : Nat} (h : j < l.length) : (l ++ [x]).getD j pr0 = l.getD j pr0 := by
  rw [List.getD_eq_getElem?_getD, List.getD_eq_getElem?_getD, List.getElem?_append_left h]
theorem getD_app2 (l : List Pr) (x : Pr) : (l ++ [x]).getD l.length pr0 = x := by
  rw [List.getD_eq_getElem?_getD, List.getElem?_append_right (Nat.le_refl _), Nat.sub_self]
  rfl
theorem headN_app (e : Nat) (l : List Pr) (x : Pr) {j : Nat} (h : j < l.length) : headN e (l ++ [x]) j = headN e l j := by
  unfold headN
  rw [getD_app1 l x h, getD_app1 l x (show j - 1 < l.length by omega)]
theorem pairB_app (e : Nat) (l : List Pr) (x : Pr) {j : Nat} (h : j < l.length) : pairB e (l ++ [x]) j = pairB e l j := by
  unfold pairB
  rw [headN_app e l x h, getD_app1 l x h]
theorem pairsB_app (e : Nat) (l : List Pr) (x : Pr) : ∀ k, k ≤ l.length → pairsB e (l ++ [x]) k = pairsB e l k
  | 0, _ => rfl
  | k + 1, h => by
    show pairsB e (l ++ [x]) k ++ pairB e (l ++ [x]) k = pairsB e l k ++ pairB e l k
    rw [pairsB_app e l x k (by omega), pairB_app e l x (by omega)]
theorem startsN_app (e : Nat) (l : List Pr) (x : Pr) : ∀ k, k ≤ l.length → startsN e (l ++ [x]) k = startsN e l k
  | 0, _ => rfl
  | k + 1, h => by
    unfold startsN
    rw [startsN_app e l x k (by omega), pairsB_app e l x k (by omega)]
/-- What a key shares with the one ahead. -/
def shr (e : Nat) (l : List Pr) (x : Pr) : Nat := if l.length % e = 0 then 0 else shL (bs (keyAt l l.length)) (bs x.key)
theorem shr_le (e : Nat) (l : List Pr) (x : Pr) : shr e l x ≤ x.key.size := by
  unfold shr
  split
  · omega
  · rw [← bs_length]; exact (shL_le _ _).2
theorem pairs_step (e : Nat) (l : List Pr) (x : Pr) : pairsB e (l ++ [x]) (l.length + 1) = pairsB e l l.length ++ oneB x (shr e l x) := by
  show pairsB e (l ++ [x]) l.length ++ pairB e (l ++ [x]) l.length = _
  rw [pairsB_app e l x _ (Nat.le_refl _)]
  congr 1
  have hh : headN e (l ++ [x]) l.length = shr e l x := by
    unfold headN shr
    by_cases h : l.length % e = 0
    · rw [if_pos h, if_pos h]
    · have h0 : l.length ≠ 0 := fun h0 => h (by rw [h0, Nat.zero_mod])
      rw [if_neg h, if_neg h, getD_app2, getD_app1 l x (by omega), shL_comm]
      unfold keyAt
      rw [if_neg h0]
  unfold pairB oneB
  rw [hh, getD_app2]
theorem starts_step (e : Nat) (l : List Pr) (x : Pr) : startsN e (l ++ [x]) (l.length + 1) = if l.length % e = 0 then startsN e l l.length ++ [(pairsB e l l.length).length] else startsN e l l.length := by
  show (if l.length % e = 0 then startsN e (l ++ [x]) l.length ++ [(pairsB e (l ++ [x]) l.length).length] else startsN e (l ++ [x]) l.length) = _
  rw [startsN_app e l x _ (Nat.le_refl _), pairsB_app e l x _ (Nat.le_refl _)]
theorem key_step (l : List Pr) (x : Pr) : keyAt (l ++ [x]) (l.length + 1) = x.key := by
  unfold keyAt
  rw [if_neg (by omega), Nat.add_sub_cancel, getD_app2]
theorem ord_step (l : List Pr) (x : Pr) : ordP (l ++ [x]) ↔ ordP l ∧ (l.length = 0 ∨ cmpB (bs (keyAt l l.length)) (bs x.key) < 0) := by
  constructor
  · intro h
    refine ⟨fun j h1 h2 => ?_, ?_⟩
    · have := h j h1 (by rw [List.length_append]; omega)
      unfold cmpP at this ⊢
      rw [getD_app1 l x h2, getD_app1 l x (by omega)] at this
      exact this
    · by_cases h0 : l.length = 0
      · exact .inl h0
      · right
        have := h l.length (by omega) (by rw [List.length_append]; simp)
        unfold cmpP at this
        rw [getD_app2, getD_app1 l x (by omega)] at this
        unfold keyAt
        rw [if_neg h0]
        exact this
  · rintro ⟨h, h2⟩ j h3 h4
    rw [List.length_append, List.length_singleton] at h4
    unfold cmpP
    rcases Nat.lt_or_ge j l.length with h5 | h5
    · rw [getD_app1 l x h5, getD_app1 l x (by omega)]
      exact h j h3 h5
    · obtain rfl : j = l.length := by omega
      rw [getD_app2, getD_app1 l x (by omega)]
      rcases h2 with h2 | h2
      · omega
      · unfold keyAt at h2
        rw [if_neg (by omega)] at h2
        exact h2
theorem ord_take {l m : List Pr} (h : ordP m) (hp : l <+: m) : ordP l := by
  obtain ⟨t, rfl⟩ := hp
  intro j h1 h2
  have := h j h1 (by rw [List.length_append]; omega)
  unfold cmpP at this ⊢
  have e : ∀ i, i < l.length → (l ++ t).getD i pr0 = l.getD i pr0 := fun i hi => by
    rw [List.getD_eq_getElem?_getD, List.getD_eq_getElem?_getD, List.getElem?_append_left hi]
  rw [e j h2, e (j - 1) (by omega)] at this
  exact this
/-- The pairs at places. -/
def pl (L : List Pr) (pre : List (Plc L.length)) : List Pr := pre.map fun z => L.getD z.val pr0
theorem pl_len (L : List Pr) (pre : List (Plc L.length)) : (pl L pre).length = pre.length := by unfold pl; rw [List.length_map]
theorem pl_app (L : List Pr) (pre : List (Plc L.length)) (z : Plc L.length) : pl L (pre ++ [z]) = pl L pre ++ [L.getD z.val pr0] := by unfold pl; rw [List.map_append]; rfl
theorem pl_up (L : List Pr) : ∀ k, k ≤ L.length → pl L (up L.length k) = L.take k
  | 0, _ => by simp [up, pl]
  | k + 1, h => by
    rw [up_step (show k < L.length by omega), pl_app, pl_up L k (by omega), take_pr L k (by omega)]
theorem pl_all (L : List Pr) : pl L (up L.length L.length) = L := by rw [pl_up L _ (Nat.le_refl _), List.take_length]
theorem pl_pre {L : List Pr} {pre : List (Plc L.length)} (h : pre <+: up L.length L.length) : pl L pre <+: L := by
  obtain ⟨t, ht⟩ := h
  have := congrArg (pl L) ht
  rw [pl_all] at this
  unfold pl at this
  rw [List.map_append] at this
  exact ⟨_, this⟩
theorem pl_low {L : List Pr} {m : Nat} (h : Low m L) (pre : List (Plc L.length)) : Low m (pl L pre) := fun i hi => by
  have := getD_memPr (pl L pre) i hi
  unfold pl at this
  obtain ⟨z, _, hz⟩ := List.mem_map.1 this
  have hz : L.getD z.val pr0 = (pl L pre).getD i pr0 := hz
  rw [← hz]
  exact h z.val z.2
/-- WHAT THE ROUNDS OF A pack KEEP. -/
def PkI (w w1 : World) (e : Nat) (L : List Pr) (pre : List (Plc L.length)) (W : World) : Prop :=
  ∃ rv bv, PkS w e rv bv (pl L pre).length (keyAt (pl L pre) (pl L pre).length) W ∧ BX w1.heap.size W bv rv (pairsB e (pl L pre) (pl L pre).length) (nI (startsN e (pl L pre) (pl L pre).length)) ∧ ordP (pl L pre) ∧ Fr No w W ∧ w1.heap.size ≤ W.heap.size
theorem own_pkI (w w1 : World) (e : Nat) (L : List Pr) (h : w.heap.size ≤ w1.heap.size) : OwnFrom w1.heap.size (PkI w w1 e L) := fun pre W W' row ⟨rv, bv, h1, h2, h3, h6, h7⟩ hg hr =>
  ⟨rv, bv, h1.own hg hr, h2.own hg hr, h3, own_fr h h6 hg hr, Nat.le_trans h7 hg.size⟩
/-- What stands behind the round that has found pairs that are not in order. -/
def PkX (w : World) (L : List Pr) (c : Code) (pre : List (Plc L.length)) (W : World) : Prop := c = .ret ∧ ¬ ordP (pl L pre) ∧ At W (w.heap.size + 1) 165 #[.pointer none] ∧ At W (w.heap.size + 1 + 1) 28 #[.int .i64 31] ∧ Fr No w W
theorem own_pkX (w w1 : World) (L : List Pr) (c : Code) (h : w.heap.size ≤ w1.heap.size) : OwnFrom w1.heap.size (PkX w L c) := fun pre W W' row ⟨h0, h1, h2, h3, h4⟩ hg hr =>
  ⟨h0, h1, own_at h2 hg hr, own_at h3 hg hr, own_fr h h4 hg hr⟩
/-- What a round turns. -/
def PkT (w : World) (rv bv : Value) : Nat → Prop := fun k => k = w.heap.size + 1 + 1 + 1 ∨ k = w.heap.size + 1 + 1 + 1 + 1 + 1 ∨ k = w.heap.size + 1 + 1 + 1 + 1 + 1 + 1 ∨ bv.ownBlock = some k ∨ rv.ownBlock = some k
theorem cells_of_row {w : World} {base : Nat} {t : TypeId} {s n : Nat} {v : Value} {xs : List Value} (h : w.ownsRow base t s v n xs) {k : Nat} (hk : v.ownBlock = some k) {o : Obj} (ho : w.heap[k]? = some o) : o.isCells = true := by
  rcases h.2 with ⟨rfl, _⟩ | ⟨g, cap, cur, rfl, _, hg, _⟩
  · simp [Value.ownBlock] at hk
  · cases Option.some.inj hk
    rw [hg] at ho
    cases ho
    rfl
theorem cells_of_at {w : World} {g : Nat} {t : TypeId} {cs : Array Value} (h : At w g t cs) {o : Obj} (ho : w.heap[g]? = some o) : o.isCells = true := by
  have := h.symm.trans ho
  cases this
  rfl
theorem pk_keeps {w W W' : World} {e c B : Nat} {rv bv : Value} {ah : ByteArray} {p : List UInt8} {q : List Int} (h : PkS w e rv bv c ah W) (h2 : BX B W bv rv p q) (hB : w.heap.size ≤ B) (f : Fr (PkT w rv bv) W W') : KeepsOthers W W' ∧ Kq (fun k => k < w.heap.size) W W' := by
  constructor
  · refine ⟨f.size, fun k o hk ho => (f.block k (Array.getElem?_eq_some_iff.1 hk).1 fun ht => ?_).trans hk⟩
    have : o.isCells = true := by
      rcases ht with rfl | rfl | rfl | ht | ht
      · exact cells_of_at h.b3 hk
      · exact cells_of_at h.b5 hk
      · exact cells_of_at h.b6 hk
      · exact cells_of_row h2.out.1 ht hk
      · exact cells_of_row h2.starts.1 ht hk
    rw [this] at ho
    cases ho
  · refine ⟨f.size, fun k hk hs => f.block k hk fun ht => ?_⟩
    rcases hs with hs | ⟨cs, fz, hs⟩
    · rcases ht with rfl | rfl | rfl | ht | ht
      · omega
      · omega
      · omega
      · have := h2.newo k ht; omega
      · have := h2.news k ht; omega
    · rcases ht with rfl | rfl | rfl | ht | ht
      · have := h.b3.symm.trans hs; cases this
      · have := h.b5.symm.trans hs; cases this
      · have := h.b6.symm.trans hs; cases this
      · exact h2.notPair (.inl ht) hs
      · exact h2.notPair (.inr ht) hs
/-- An append whose run is known, in a region that draws. -/
theorem oper_append_run {P : Program} {o : Oper} {a : Act} {w w' : World} {K : Act → World → Prop} {Q : Exit → Act → World → Prop} (s x : Operand) (t : TypeId)
    (ho : o.op = .call { callee := .builtin .append, args := #[s, x], argTypes := #[t, t] }) {u u2 v : Value} (hs : a.eval s = u) (hx : a.eval x = u2) (hr : (Builtin.append_ #[t, t] o.type #[u, u2]).run P w = .ok v w') (h : K (a.put o.dst v) w') : Oper.wp P o a w K Q := by
  unfold Oper.wp execOp
  simp only [ho, resolve, invoke, builtin, Sem.run_bind, Sem.run_pure, Result.andThen_ok, List.map_toArray, List.map_cons, List.map_nil, hs, hx, hr]
  exact h
theorem RowI.form_ {w : World} {S : Nat → Prop} {v : Value} {l : List Int} (h : RowI w S v l) : ∃ a n c, v = .slice a n c := by
  obtain ⟨a, c, h1, _⟩ := h.form
  exact ⟨_, _, _, h1⟩
/-- What pack tells. -/
def PackRet (L : List Pr) (e : Nat) (w : World) (en : Ending) (w' : World) : Prop :=
  (ordP L ∧ ∃ x F, en = .returned (.tuple #[.pointer (some ⟨x, 0, none⟩), .int .i64 0]) ∧ Bk w' x F L e ∧ (∀ k, F k → w.heap.size ≤ k) ∧ Fr No w w') ∨
  (¬ ordP L ∧ en = .returned (.tuple #[.pointer none, .int .i64 31]) ∧ Fr No w w')
end Go.Proofs.YtlobnbbndkhcbaaGreatDoor
