/-
  Layer 11, lists whose values have no cell: a list of towers in memory; one level of an insertion; what is read at a place.
-/
import Derived.Test.YtggjkpgkmohmdaaSkS
namespace Go.Proofs.Ytggjkpgkmohmdaa
set_option linter.unusedVariables false
open Go.RowKit

section
variable {κ ν : Type}
def ptrN (o : Option (Nd κ ν)) : Value := match o with
  | none => .pointer none
  | some y => .pointer (some ⟨y.b, 0, none⟩)
def lnk (f : Nat → Option (Nd κ ν)) (h : Nat) : Array Value := ((List.range h).map fun i => ptrN (f i)).toArray
theorem lnk_at (f : Nat → Option (Nd κ ν)) (h i : Nat) (hi : i < h) : (lnk f h)[i]? = some (ptrN (f i)) := by simp [lnk, hi]
theorem lnk_congr {f g : Nat → Option (Nd κ ν)} {h : Nat} (e : ∀ i, i < h → f i = g i) : lnk f h = lnk g h := by
  unfold lnk
  congr 1
  refine List.map_congr_left fun i hi => ?_
  rw [e i (List.mem_range.1 hi)]
theorem lnk_set (f g : Nat → Option (Nd κ ν)) (h j : Nat) (o : Option (Nd κ ν)) (e1 : g j = o) (e2 : ∀ i, i < h → i ≠ j → g i = f i) : (lnk f h).setIfInBounds j (ptrN o) = lnk g h := by
  apply Array.ext
  · simp [lnk]
  · intro t h1 h2
    have ht : t < h := by simpa [lnk] using h2
    rw [Array.getElem_setIfInBounds (by simpa [lnk] using ht)]
    simp only [lnk, List.getElem_toArray, List.getElem_map, List.getElem_range]
    by_cases e : j = t
    · subst e
      rw [if_pos rfl, e1]
    · rw [if_neg e, e2 t ht (fun h => e h.symm)]
/-- The block of a place's links. -/
def slotN (hs : Nat) (o : Option (Nd κ ν)) : Nat := match o with
  | none => hs
  | some x => x.s
/-- A LIST in memory; F tells what stands at level i behind a key (none: the head). -/
structure SkM (lt : κ → κ → Bool) (K : κ → Value) (V : ν → Value) (zk zv : Value) (tL tN tP : TypeId) (F : Nat → Option κ → Option (Nd κ ν)) (len : Int) (w : World) (b hb hs : Nat) (ns : List (Nd κ ν)) : Prop where
  lst : At w b tL #[.pointer (some ⟨hb, 0, none⟩), .int .i64 len]
  head : At w hb tN #[zk, .slice (some ⟨hs, 0, none⟩) 12 12]
  hnx : At w hs tP (lnk (fun i => F i none) 12)
  nod : ∀ x ∈ ns, At w x.b tN #[K x.k, .slice (some ⟨x.s, 0, none⟩) x.h x.h] ∧ At w x.s tP (lnk (fun i => F i (some x.k)) x.h)
  hts : ∀ x ∈ ns, 1 ≤ x.h ∧ x.h ≤ 12
  srt : Sorted lt ns
  apart : ∀ x ∈ ns, x.b ≠ hb ∧ x.s ≠ hs
  inj : ∀ x ∈ ns, ∀ y ∈ ns, x.b = y.b ∨ x.s = y.s → x = y
theorem At.ty {w : World} {g : Nat} {t t' : TypeId} {cs cs' : Array Value} (h : At w g t cs) (h' : At w g t' cs') : t = t' := by
  unfold At at h h'
  rw [h] at h'
  injection h' with h'
  injection h'
theorem sorted_key {lt : κ → κ → Bool} (o : SOrd lt) {ns : List (Nd κ ν)} (hs : Sorted lt ns) {x y : Nd κ ν} (hx : x ∈ ns) (hy : y ∈ ns) (e : x.k = y.k) : x = y := by
  induction ns with
  | nil => cases hx
  | cons z zs ih =>
    obtain ⟨h1, h2⟩ := List.pairwise_cons.1 hs
    rcases List.mem_cons.1 hx with rfl | hx' <;> rcases List.mem_cons.1 hy with rfl | hy'
    · rfl
    · exact absurd e (o.ne (h1 y hy'))
    · exact absurd e.symm (o.ne (h1 x hx'))
    · exact ih h2 hx' hy'
variable {lt : κ → κ → Bool} {K : κ → Value} {V : ν → Value} {zk zv : Value} {tL tN tP : TypeId} {F G : Nat → Option κ → Option (Nd κ ν)} {len : Int} {w w' : World} {b hb hs : Nat} {ns : List (Nd κ ν)}
/-- The blocks that it stands on. -/
def SkOn (b hb hs : Nat) (ns : List (Nd κ ν)) : Nat → Prop := fun k => k = b ∨ k = hb ∨ k = hs ∨ ∃ x ∈ ns, k = x.b ∨ k = x.s
theorem SkM.keep {S : Nat → Prop} (h : SkM lt K V zk zv tL tN tP F len w b hb hs ns) (f : Fr S w w') (hn : ∀ k, SkOn b hb hs ns k → ¬ S k) : SkM lt K V zk zv tL tN tP F len w' b hb hs ns :=
  ⟨h.lst.keep f (hn b (.inl rfl)), h.head.keep f (hn hb (.inr (.inl rfl))), h.hnx.keep f (hn hs (.inr (.inr (.inl rfl)))), fun x hx => ⟨(h.nod x hx).1.keep f (hn _ (.inr (.inr (.inr ⟨x, hx, .inl rfl⟩)))), (h.nod x hx).2.keep f (hn _ (.inr (.inr (.inr ⟨x, hx, .inr rfl⟩))))⟩, h.hts, h.srt, h.apart, h.inj⟩
theorem SkM.lt_size (h : SkM lt K V zk zv tL tN tP F len w b hb hs ns) : ∀ k, SkOn b hb hs ns k → k < w.heap.size := by
  rintro k (rfl | rfl | rfl | ⟨x, hx, rfl | rfl⟩)
  · exact h.lst.lt
  · exact h.head.lt
  · exact h.hnx.lt
  · exact (h.nod x hx).1.lt
  · exact (h.nod x hx).2.lt
/-- The same, said otherwise of what stands behind. -/
theorem SkM.same (h : SkM lt K V zk zv tL tN tP F len w b hb hs ns) (e0 : ∀ i, i < 12 → F i none = G i none) (e1 : ∀ x ∈ ns, ∀ i, i < x.h → F i (some x.k) = G i (some x.k)) : SkM lt K V zk zv tL tN tP G len w b hb hs ns :=
  ⟨h.lst, h.head, by rw [← lnk_congr e0]; exact h.hnx, fun x hx => ⟨(h.nod x hx).1, by rw [← lnk_congr (e1 x hx)]; exact (h.nod x hx).2⟩, h.hts, h.srt, h.apart, h.inj⟩
/-- ONE LINK TURNED. -/
theorem SkM.turn (o : SOrd lt) (t1 : tN ≠ tP) (t2 : tL ≠ tP) (h : SkM lt K V zk zv tL tN tP F len w b hb hs ns) (j : Nat) (p : Option (Nd κ ν)) (hp : ∀ x, p = some x → x ∈ ns ∧ j < x.h) (q : Option (Nd κ ν))
    (e0 : G j (p.map (·.k)) = q) (e1 : ∀ i a, (∀ x, a = some x → x ∈ ns ∧ i < x.h) → (i = j → a.map (·.k) ≠ p.map (·.k)) → G i (a.map (·.k)) = F i (a.map (·.k))) :
    SkM lt K V zk zv tL tN tP G len (w.setCell ⟨slotN hs p, j, none⟩ (ptrN q)) b hb hs ns := by
  have f : Fr (One (slotN hs p)) w (w.setCell ⟨slotN hs p, j, none⟩ (ptrN q)) := Fr.setCell (Fr.refl (One (slotN hs p)) w) (p := ⟨slotN hs p, j, none⟩) (fun _ => show One (slotN hs p) (slotN hs p) from rfl) _
  have tp : ∃ cs, At w (slotN hs p) tP cs := by
    cases p with
    | none => exact ⟨_, h.hnx⟩
    | some x => exact ⟨_, (h.nod x (hp x rfl).1).2⟩
  obtain ⟨cs, tp⟩ := tp
  refine ⟨h.lst.keep f (fun e => ?_), h.head.keep f (fun e => ?_), ?_, fun x hx => ⟨(h.nod x hx).1.keep f (fun e => ?_), ?_⟩, h.hts, h.srt, h.apart, h.inj⟩
  · have e : b = slotN hs p := e
    exact t2 (At.ty h.lst (by rw [e]; exact tp))
  · have e : hb = slotN hs p := e
    exact t1 (At.ty h.head (by rw [e]; exact tp))
  · cases p with
    | none =>
      have e : (lnk (fun i => F i none) 12).setIfInBounds j (ptrN q) = lnk (fun i => G i none) 12 := lnk_set _ _ 12 j q e0 (fun i _ hi => e1 i none (fun x hx => by cases hx) (fun e => absurd e hi))
      rw [← e]
      exact h.hnx.set_ j (ptrN q)
    | some y =>
      have e : lnk (fun i => F i none) 12 = lnk (fun i => G i none) 12 := lnk_congr (fun i _ => (e1 i none (fun x hx => by cases hx) (fun _ => by simp)).symm)
      rw [← e]
      exact h.hnx.keep f (fun e => (h.apart y (hp y rfl).1).2 (show hs = y.s from e).symm)
  · have e : x.b = slotN hs p := e
    exact t1 (At.ty (h.nod x hx).1 (by rw [e]; exact tp))
  · have other : x.s ≠ slotN hs p → (∀ i, i < x.h → i = j → (some x).map (·.k) ≠ p.map (·.k)) → At (w.setCell ⟨slotN hs p, j, none⟩ (ptrN q)) x.s tP (lnk (fun i => G i (some x.k)) x.h) := fun hne hk => by
      have e : lnk (fun i => F i (some x.k)) x.h = lnk (fun i => G i (some x.k)) x.h := lnk_congr (fun i hi => (e1 i (some x) (fun y hy => by cases hy; exact ⟨hx, hi⟩) (hk i hi)).symm)
      rw [← e]
      exact (h.nod x hx).2.keep f hne
    cases p with
    | none => exact other (h.apart x hx).2 (fun _ _ _ => by simp)
    | some y =>
      by_cases exy : x = y
      · subst exy
        have e : (lnk (fun i => F i (some x.k)) x.h).setIfInBounds j (ptrN q) = lnk (fun i => G i (some x.k)) x.h := lnk_set _ _ x.h j q e0 (fun i hi hij => e1 i (some x) (fun y hy => by cases hy; exact ⟨hx, hi⟩) (fun e => absurd e hij))
        rw [← e]
        exact (h.nod x hx).2.set_ j (ptrN q)
      · exact other (fun e => exy (h.inj x hx y (hp y rfl).1 (.inr e))) (fun _ _ _ e => exy (sorted_key o h.srt hx (hp y rfl).1 (by simpa using e)))
/-- THE NEW NODE IS ONE OF THEM. -/
theorem SkM.insert (o : SOrd lt) (n : Nd κ ν) (h : SkM lt K V zk zv tL tN tP F len w b hb hs ns) (hk : ∀ x ∈ ns, x.k ≠ n.k) (o1 : At w n.b tN #[K n.k, .slice (some ⟨n.s, 0, none⟩) n.h n.h]) (o2 : At w n.s tP (lnk (fun i => F i (some n.k)) n.h))
    (hh : 1 ≤ n.h ∧ n.h ≤ 12) (hf : ∀ k, SkOn b hb hs ns k → k ≠ n.b ∧ k ≠ n.s) : SkM lt K V zk zv tL tN tP F len w b hb hs (insN lt n ns) := by
  refine ⟨h.lst, h.head, h.hnx, fun x hx => ?_, fun x hx => ?_, insN_sorted o n ns h.srt hk, fun x hx => ?_, fun x hx y hy e => ?_⟩
  · rcases (insN_mem n ns x).1 hx with rfl | hx
    · exact ⟨o1, o2⟩
    · exact h.nod x hx
  · rcases (insN_mem n ns x).1 hx with rfl | hx
    · exact hh
    · exact h.hts x hx
  · rcases (insN_mem n ns x).1 hx with rfl | hx
    · exact ⟨fun e => (hf hb (.inr (.inl rfl))).1 e.symm, fun e => (hf hs (.inr (.inr (.inl rfl)))).2 e.symm⟩
    · exact h.apart x hx
  · rcases (insN_mem n ns x).1 hx with ex | hx' <;> rcases (insN_mem n ns y).1 hy with ey | hy'
    · rw [ex, ey]
    · rw [ex] at e
      rcases e with e | e
      · exact absurd e.symm (hf y.b (.inr (.inr (.inr ⟨y, hy', .inl rfl⟩)))).1
      · exact absurd e.symm (hf y.s (.inr (.inr (.inr ⟨y, hy', .inr rfl⟩)))).2
    · rw [ey] at e
      rcases e with e | e
      · exact absurd e (hf x.b (.inr (.inr (.inr ⟨x, hx', .inl rfl⟩)))).1
      · exact absurd e (hf x.s (.inr (.inr (.inr ⟨x, hx', .inr rfl⟩)))).2
    · exact h.inj x hx' y hy' e
/-- The length turned. -/
theorem SkM.count (t2 : tL ≠ tP) (t3 : tL ≠ tN) (h : SkM lt K V zk zv tL tN tP F len w b hb hs ns) (len' : Int) : SkM lt K V zk zv tL tN tP F len' (w.setCell ⟨b, 1, none⟩ (.int .i64 len')) b hb hs ns := by
  have f : Fr (One b) w (w.setCell ⟨b, 1, none⟩ (.int .i64 len')) := Fr.setCell (Fr.refl (One b) w) (p := ⟨b, 1, none⟩) (fun _ => show One b b from rfl) _
  refine ⟨by simpa using h.lst.set_ 1 (.int .i64 len'), h.head.keep f (fun e => ?_), h.hnx.keep f (fun e => ?_), fun x hx => ⟨(h.nod x hx).1.keep f (fun e => ?_), (h.nod x hx).2.keep f (fun e => ?_)⟩, h.hts, h.srt, h.apart, h.inj⟩
  · exact t3 (At.ty h.lst (by rw [← show hb = b from e]; exact h.head))
  · exact t2 (At.ty h.lst (by rw [← show hs = b from e]; exact h.hnx))
  · exact t3 (At.ty h.lst (by rw [← show x.b = b from e]; exact (h.nod x hx).1))
  · exact t2 (At.ty h.lst (by rw [← show x.s = b from e]; exact (h.nod x hx).2))
end
end Go.Proofs.Ytggjkpgkmohmdaa
namespace Go.Proofs.Ytggjkpgkmohmdaa
set_option linter.unusedVariables false
open Go.RowKit

section
variable {κ ν : Type} {lt : κ → κ → Bool} {K : κ → Value} {V : ν → Value} {zk zv : Value} {tL tN tP : TypeId} {F G : Nat → Option κ → Option (Nd κ ν)} {len : Int} {w w' : World} {b hb hs : Nat} {ns : List (Nd κ ν)}
/-- The block of a place's node. -/
def spotN (hb : Nat) (o : Option (Nd κ ν)) : Nat := match o with
  | none => hb
  | some x => x.b
/-- What is read at a place. -/
theorem SkM.place (h : SkM lt K V zk zv tL tN tP F len w b hb hs ns) (p : Option (Nd κ ν)) (j : Nat) (hj : j < 12) (hp : ∀ x, p = some x → x ∈ ns ∧ j < x.h) :
    ∃ n, w.cell? ⟨spotN hb p, 1, none⟩ = some (.slice (some ⟨slotN hs p, 0, none⟩) n n) ∧ j < n ∧ n ≤ 12 ∧ w.cell? ⟨slotN hs p, j, none⟩ = some (ptrN (F j (p.map (·.k)))) ∧ w.frozen? ⟨slotN hs p, j, none⟩ = false := by
  cases p with
  | none => exact ⟨12, h.head.cell 1, hj, Nat.le_refl _, (h.hnx.cell j).trans (lnk_at _ 12 j hj), h.hnx.frozen j⟩
  | some x =>
    obtain ⟨hx, hxj⟩ := hp x rfl
    exact ⟨x.h, (h.nod x hx).1.cell 1, hxj, (h.hts x hx).2, ((h.nod x hx).2.cell j).trans (lnk_at _ x.h j hxj), (h.nod x hx).2.frozen j⟩
theorem EndsAt.places {k : κ} {j : Nat} {p : Option (Nd κ ν)} (h : EndsAt lt ns k j p) : ∀ x, p = some x → x ∈ ns ∧ j < x.h := fun x hx => ⟨(h.mem x hx).1, (h.mem x hx).2.1⟩
/-- ONE LEVEL OF AN INSERTION. -/
theorem SkM.level (o : SOrd lt) (t1 : tN ≠ tP) (t2 : tL ≠ tP) (n : Nd κ ν) (hk : ∀ x ∈ ns, x.k ≠ n.k) (j : Nat) (hj : j < n.h) (p : Option (Nd κ ν)) (he : EndsAt lt ns n.k j p) (h : SkM lt K V zk zv tL tN tP (nxtJ lt ns n j) len w b hb hs ns) :
    SkM lt K V zk zv tL tN tP (nxtJ lt ns n (j + 1)) len (w.setCell ⟨slotN hs p, j, none⟩ (.pointer (some ⟨n.b, 0, none⟩))) b hb hs ns := by
  refine h.turn o t1 t2 j p he.places (some n) ?_ fun i a ha hne => ?_
  · unfold nxtJ
    rw [if_pos (Nat.lt_succ_self j)]
    exact nxt_place o h.srt n hk hj he
  · unfold nxtJ
    by_cases e : i = j
    · subst e
      rw [if_pos (Nat.lt_succ_self i), if_neg (Nat.lt_irrefl i)]
      exact nxt_other o h.srt n hk he ha (hne rfl)
    · by_cases h2 : i < j
      · rw [if_pos h2, if_pos (by omega)]
      · rw [if_neg h2, if_neg (by omega)]
/-- The new node's own links, up to a level. -/
def ownJ (lt : κ → κ → Bool) (ns : List (Nd κ ν)) (n : Nd κ ν) (j : Nat) : Array Value := lnk (fun i => if i < j then nxt lt (insN lt n ns) i (some n.k) else none) n.h
theorem ownJ_zero (n : Nd κ ν) : ownJ lt ns n 0 = ((List.range n.h).map fun _ => Value.pointer none).toArray := by
  unfold ownJ lnk
  simp [ptrN]
theorem ownJ_full (o : SOrd lt) (hs : Sorted lt ns) (n : Nd κ ν) (hk : ∀ x ∈ ns, x.k ≠ n.k) : ownJ lt ns n n.h = lnk (fun i => nxt lt (insN lt n ns) i (some n.k)) n.h :=
  lnk_congr fun i hi => by rw [if_pos hi]
theorem ownJ_set (o : SOrd lt) (hs : Sorted lt ns) (n : Nd κ ν) (hk : ∀ x ∈ ns, x.k ≠ n.k) (j : Nat) {p : Option (Nd κ ν)} (he : EndsAt lt ns n.k j p) : (ownJ lt ns n j).setIfInBounds j (ptrN (nxt lt ns j (p.map (·.k)))) = ownJ lt ns n (j + 1) := by
  refine lnk_set _ _ n.h j _ ?_ fun i _ hne => ?_
  · rw [if_pos (Nat.lt_succ_self j)]
    exact nxt_after o hs n hk he
  · by_cases h2 : i < j
    · rw [if_pos h2, if_pos (by omega)]
    · rw [if_neg h2, if_neg (by omega)]
/-- The insertion's end. -/
theorem SkM.done (o : SOrd lt) (n : Nd κ ν) (h : SkM lt K V zk zv tL tN tP (nxtJ lt ns n n.h) len w b hb hs ns) (hk : ∀ x ∈ ns, x.k ≠ n.k) (o1 : At w n.b tN #[K n.k, .slice (some ⟨n.s, 0, none⟩) n.h n.h]) (o2 : At w n.s tP (ownJ lt ns n n.h))
    (hh : 1 ≤ n.h ∧ n.h ≤ 12) (hf : ∀ k, SkOn b hb hs ns k → k ≠ n.b ∧ k ≠ n.s) : SkM lt K V zk zv tL tN tP (nxt lt (insN lt n ns)) len w b hb hs (insN lt n ns) := by
  have h2 : SkM lt K V zk zv tL tN tP (nxt lt (insN lt n ns)) len w b hb hs ns := h.same (fun i _ => nxtJ_full o h.srt n hk i none) fun x hx i _ => nxtJ_full o h.srt n hk i (some x.k)
  rw [ownJ_full o h.srt n hk] at o2
  exact h2.insert o n hk o1 o2 hh hf
/-- The insertion's start. -/
theorem SkM.start (h : SkM lt K V zk zv tL tN tP (nxt lt ns) len w b hb hs ns) (n : Nd κ ν) : SkM lt K V zk zv tL tN tP (nxtJ lt ns n 0) len w b hb hs ns :=
  h.same (fun i _ => (nxtJ_zero ns n i none).symm) fun x _ i _ => (nxtJ_zero ns n i (some x.k)).symm

/-! ### A value put again. -/
def setN (g : Nat) (v : ν) (x : Nd κ ν) : Nd κ ν := if x.b = g then { x with v := v } else x
theorem setN_k (g : Nat) (v : ν) (x : Nd κ ν) : (setN g v x).k = x.k := by unfold setN; split <;> rfl
theorem setN_h (g : Nat) (v : ν) (x : Nd κ ν) : (setN g v x).h = x.h := by unfold setN; split <;> rfl
theorem setN_b (g : Nat) (v : ν) (x : Nd κ ν) : (setN g v x).b = x.b := by unfold setN; split <;> rfl
theorem setN_s (g : Nat) (v : ν) (x : Nd κ ν) : (setN g v x).s = x.s := by unfold setN; split <;> rfl
theorem nxt_setN (g : Nat) (v : ν) (i : Nat) (a : Option κ) : ∀ ns : List (Nd κ ν), nxt lt (ns.map (setN g v)) i a = (nxt lt ns i a).map (setN g v)
  | [] => rfl
  | x :: xs => by
    have ih := nxt_setN g v i a xs
    unfold nxt at ih ⊢
    rw [List.map_cons, List.find?_cons, List.find?_cons, setN_h, setN_k]
    split
    · rfl
    · exact ih
theorem ptrN_setN (g : Nat) (v : ν) (o : Option (Nd κ ν)) : ptrN (o.map (setN g v)) = ptrN o := by
  cases o with
  | none => rfl
  | some x => show Value.pointer (some ⟨(setN g v x).b, 0, none⟩) = _; rw [setN_b]; rfl
end
end Go.Proofs.Ytggjkpgkmohmdaa
