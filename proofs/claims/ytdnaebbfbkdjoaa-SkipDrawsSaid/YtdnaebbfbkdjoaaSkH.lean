/-
  Layer 5: a list of towers in memory: one level of an insertion; a value put again; what is read at a place. No function of the program is named.
-/
import Derived.Test.YtdnaebbfbkdjoaaSkG
namespace Go.Proofs.Ytdnaebbfbkdjoaa
set_option linter.unusedVariables false
open Go.RowKit

section
variable {κ ν : Type} {lt : κ → κ → Bool} {K : κ → Value} {V : ν → Value} {zk zv : Value} {tL tN tP : TypeId} {F G : Nat → Option κ → Option (Nd κ ν)} {len : Int} {w w' : World} {b hb hs : Nat} {ns : List (Nd κ ν)}
/-- The block of a place's node. -/
def spotN (hb : Nat) (o : Option (Nd κ ν)) : Nat := match o with
  | none => hb
  | some x => x.b
/-- What is read at a place. -/
theorem SkM.place (h : SkM lt K V zk zv tL tN tP F len w b hb hs ns) (p : Option (Nd κ ν)) (j : Nat) (hj : j < 12) (hp : ∀ x, p = some x → x ∈ ns ∧ j < x.h) :
    ∃ n, w.cell? ⟨spotN hb p, 2, none⟩ = some (.slice (some ⟨slotN hs p, 0, none⟩) n n) ∧ j < n ∧ n ≤ 12 ∧ w.cell? ⟨slotN hs p, j, none⟩ = some (ptrN (F j (p.map (·.k)))) ∧ w.frozen? ⟨slotN hs p, j, none⟩ = false := by
  cases p with
  | none => exact ⟨12, h.head.cell 2, hj, Nat.le_refl _, (h.hnx.cell j).trans (lnk_at _ 12 j hj), h.hnx.frozen j⟩
  | some x =>
    obtain ⟨hx, hxj⟩ := hp x rfl
    exact ⟨x.h, (h.nod x hx).1.cell 2, hxj, (h.hts x hx).2, ((h.nod x hx).2.cell j).trans (lnk_at _ x.h j hxj), (h.nod x hx).2.frozen j⟩
theorem EndsAt.places {k : κ} {j : Nat} {p : Option (Nd κ ν)} (h : EndsAt lt ns k j p) : ∀ x, p = some x → x ∈ ns ∧ j < x.h := fun x hx => ⟨(h.mem x hx).1, (h.mem x hx).2.1⟩
/-- ONE LEVEL OF AN INSERTION. -/
theorem SkM.level (o : SOrd lt) (t1 : tN ≠ tP) (t2 : tL ≠ tP) (n : Nd κ ν) (hk : ∀ x ∈ ns, x.k ≠ n.k) (j : Nat) (hj : j < n.h) (p : Option (Nd κ ν)) (he : EndsAt lt ns n.k j p) (h : SkM lt K V zk zv tL tN tP (nxtJ lt ns n j) len w b hb hs ns) :
    SkM lt K V zk zv tL tN tP (nxtJ lt ns n (j + 1)) len (w.setCell ⟨slotN hs p, j, none⟩ (.pointer (some ⟨n.b, 0, none⟩))) b hb hs ns := by
  refine h.turn o t1 t2 j p he.places (some n) ?_ fun i a ha hne => ?_
  · unfold nxtJ
    rw [if_pos (Nat.lt_succ_self j)]
    exact nxt_place o h.srt n hk hj he
  · unfold nxtJ
    by_cases e : i = j
    · subst e
      rw [if_pos (Nat.lt_succ_self i), if_neg (Nat.lt_irrefl i)]
      exact nxt_other o h.srt n hk he ha (hne rfl)
    · by_cases h2 : i < j
      · rw [if_pos h2, if_pos (by omega)]
      · rw [if_neg h2, if_neg (by omega)]
/-- The new node's own links, up to a level. -/
def ownJ (lt : κ → κ → Bool) (ns : List (Nd κ ν)) (n : Nd κ ν) (j : Nat) : Array Value := lnk (fun i => if i < j then nxt lt (insN lt n ns) i (some n.k) else none) n.h
theorem ownJ_zero (n : Nd κ ν) : ownJ lt ns n 0 = ((List.range n.h).map fun _ => Value.pointer none).toArray := by
  unfold ownJ lnk
  simp [ptrN]
theorem ownJ_full (o : SOrd lt) (hs : Sorted lt ns) (n : Nd κ ν) (hk : ∀ x ∈ ns, x.k ≠ n.k) : ownJ lt ns n n.h = lnk (fun i => nxt lt (insN lt n ns) i (some n.k)) n.h :=
  lnk_congr fun i hi => by rw [if_pos hi]
theorem ownJ_set (o : SOrd lt) (hs : Sorted lt ns) (n : Nd κ ν) (hk : ∀ x ∈ ns, x.k ≠ n.k) (j : Nat) {p : Option (Nd κ ν)} (he : EndsAt lt ns n.k j p) : (ownJ lt ns n j).setIfInBounds j (ptrN (nxt lt ns j (p.map (·.k)))) = ownJ lt ns n (j + 1) := by
  refine lnk_set _ _ n.h j _ ?_ fun i _ hne => ?_
  · rw [if_pos (Nat.lt_succ_self j)]
    exact nxt_after o hs n hk he
  · by_cases h2 : i < j
    · rw [if_pos h2, if_pos (by omega)]
    · rw [if_neg h2, if_neg (by omega)]
/-- The insertion's end. -/
theorem SkM.done (o : SOrd lt) (n : Nd κ ν) (h : SkM lt K V zk zv tL tN tP (nxtJ lt ns n n.h) len w b hb hs ns) (hk : ∀ x ∈ ns, x.k ≠ n.k) (o1 : At w n.b tN #[K n.k, V n.v, .slice (some ⟨n.s, 0, none⟩) n.h n.h]) (o2 : At w n.s tP (ownJ lt ns n n.h))
    (hh : 1 ≤ n.h ∧ n.h ≤ 12) (hf : ∀ k, SkOn b hb hs ns k → k ≠ n.b ∧ k ≠ n.s) : SkM lt K V zk zv tL tN tP (nxt lt (insN lt n ns)) len w b hb hs (insN lt n ns) := by
  have h2 : SkM lt K V zk zv tL tN tP (nxt lt (insN lt n ns)) len w b hb hs ns := h.same (fun i _ => nxtJ_full o h.srt n hk i none) fun x hx i _ => nxtJ_full o h.srt n hk i (some x.k)
  rw [ownJ_full o h.srt n hk] at o2
  exact h2.insert o n hk o1 o2 hh hf
/-- The insertion's start. -/
theorem SkM.start (h : SkM lt K V zk zv tL tN tP (nxt lt ns) len w b hb hs ns) (n : Nd κ ν) : SkM lt K V zk zv tL tN tP (nxtJ lt ns n 0) len w b hb hs ns :=
  h.same (fun i _ => (nxtJ_zero ns n i none).symm) fun x _ i _ => (nxtJ_zero ns n i (some x.k)).symm

/-! ### A value put again. -/
def setN (g : Nat) (v : ν) (x : Nd κ ν) : Nd κ ν := if x.b = g then { x with v := v } else x
theorem setN_k (g : Nat) (v : ν) (x : Nd κ ν) : (setN g v x).k = x.k := by unfold setN; split <;> rfl
theorem setN_h (g : Nat) (v : ν) (x : Nd κ ν) : (setN g v x).h = x.h := by unfold setN; split <;> rfl
theorem setN_b (g : Nat) (v : ν) (x : Nd κ ν) : (setN g v x).b = x.b := by unfold setN; split <;> rfl
theorem setN_s (g : Nat) (v : ν) (x : Nd κ ν) : (setN g v x).s = x.s := by unfold setN; split <;> rfl
theorem nxt_setN (g : Nat) (v : ν) (i : Nat) (a : Option κ) : ∀ ns : List (Nd κ ν), nxt lt (ns.map (setN g v)) i a = (nxt lt ns i a).map (setN g v)
  | [] => rfl
  | x :: xs => by
    have ih := nxt_setN g v i a xs
    unfold nxt at ih ⊢
    rw [List.map_cons, List.find?_cons, List.find?_cons, setN_h, setN_k]
    split
    · rfl
    · exact ih
theorem ptrN_setN (g : Nat) (v : ν) (o : Option (Nd κ ν)) : ptrN (o.map (setN g v)) = ptrN o := by
  cases o with
  | none => rfl
  | some x => show Value.pointer (some ⟨(setN g v x).b, 0, none⟩) = _; rw [setN_b]; rfl
theorem SkM.again (t1 : tN ≠ tP) (t3 : tL ≠ tN) (h : SkM lt K V zk zv tL tN tP (nxt lt ns) len w b hb hs ns) {x : Nd κ ν} (hx : x ∈ ns) (v : ν) :
    SkM lt K V zk zv tL tN tP (nxt lt (ns.map (setN x.b v))) len (w.setCell ⟨x.b, 1, none⟩ (V v)) b hb hs (ns.map (setN x.b v)) := by
  have f : Fr (One x.b) w (w.setCell ⟨x.b, 1, none⟩ (V v)) := Fr.setCell (Fr.refl (One x.b) w) (p := ⟨x.b, 1, none⟩) (fun _ => show One x.b x.b from rfl) _
  have el : ∀ (a : Option κ) (m : Nat), lnk (fun i => nxt lt (ns.map (setN x.b v)) i a) m = lnk (fun i => nxt lt ns i a) m := fun a m => by
    unfold lnk
    congr 1
    refine List.map_congr_left fun i _ => ?_
    show ptrN (nxt lt (ns.map (setN x.b v)) i a) = ptrN (nxt lt ns i a)
    rw [nxt_setN, ptrN_setN]
  have tx := (h.nod x hx).1
  refine ⟨h.lst.keep f (fun e => ?_), h.head.keep f (fun e => (h.apart x hx).1 (show hb = x.b from e).symm), ?_, fun z hz => ?_, fun z hz => ?_, ?_, fun z hz => ?_, fun z hz y hy e => ?_⟩
  · exact t3 (At.ty h.lst (by rw [show b = x.b from e]; exact tx))
  · rw [el]
    exact h.hnx.keep f (fun e => t1 (At.ty tx (by rw [← show hs = x.b from e]; exact h.hnx)))
  · obtain ⟨y, hy, rfl⟩ := List.mem_map.1 hz
    rw [setN_b, setN_k, setN_s, setN_h, el]
    refine ⟨?_, (h.nod y hy).2.keep f (fun e => t1 (At.ty tx (by rw [← show y.s = x.b from e]; exact (h.nod y hy).2)))⟩
    by_cases e : y.b = x.b
    · have := h.inj y hy x hx (.inl e)
      subst this
      unfold setN
      rw [if_pos rfl]
      simpa using tx.set_ 1 (V v)
    · unfold setN
      rw [if_neg e]
      exact (h.nod y hy).1.keep f e
  · obtain ⟨y, hy, rfl⟩ := List.mem_map.1 hz
    rw [setN_h]
    exact h.hts y hy
  · exact List.pairwise_map.2 (h.srt.imp fun hl => by rw [setN_k, setN_k]; exact hl)
  · obtain ⟨y, hy, rfl⟩ := List.mem_map.1 hz
    rw [setN_b, setN_s]
    exact h.apart y hy
  · obtain ⟨z', hz', rfl⟩ := List.mem_map.1 hz
    obtain ⟨y', hy', rfl⟩ := List.mem_map.1 hy
    rw [setN_b, setN_s, setN_b, setN_s] at e
    rw [h.inj z' hz' y' hy' e]
end
end Go.Proofs.Ytdnaebbfbkdjoaa
