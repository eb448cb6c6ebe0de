/-
  Texts of layer 13 and of what it stands on, one behind the other.
-/
import Derived.Test.YtlobnbbndkhcbaaGreatDoorMg40

/- Layer 13, the program's own: plain mathematics: a table's bytes read as its entries. -/
namespace Go.Proofs.YtlobnbbndkhcbaaGreatDoor
set_option linter.unusedVariables false
set_option linter.unusedSimpArgs false
open Go.RowKit

/-! ### How much stands in a block. -/
theorem fillK_drop (L : List Pr) (o : Nat) : ∀ k, fillK (L.drop o) (k + 1) = fillK (L.drop o) k + flN (L.getD (o + k) pr0) := fun k => by
  show fillK (L.drop o) k + flN ((L.drop o).getD k pr0) = _
  rw [List.getD_eq_getElem?_getD, List.getElem?_drop, ← List.getD_eq_getElem?_getD]
theorem fillK_mono (L : List Pr) (i : Nat) : ∀ d, fillK L i ≤ fillK L (i + d)
  | 0 => Nat.le_refl _
  | d + 1 => Nat.le_trans (fillK_mono L i d) (by show fillK L (i + d) ≤ fillK L (i + d) + flN _; omega)
theorem fillK_sub (L : List Pr) (c : Nat × Nat) : ∀ j, j ≤ c.2 - c.1 → fillK (subP L c) j = fillK (L.drop c.1) j
  | 0, _ => rfl
  | j + 1, h => by
    rw [fillK_drop, ← fillK_sub L c j (by omega), ← subP_get L c j (by omega)]
    rfl
/-- All but the last of each block do not fill it. -/
theorem ct_inner (s : Nat) (L : List Pr) : ∀ f i o, i + f = L.length → o ≤ i → fillK (L.drop o) (i - o) < s → 0 < s → ∀ c ∈ ctG s L f i o (fillK (L.drop o) (i - o)), c.1 < c.2 ∧ fillK (L.drop c.1) (c.2 - c.1 - 1) < s
  | 0, _, _, _, _, _, _, c, h => by cases h
  | f + 1, i, o, h1, h2, h3, h4, c, h => by
    have hst : fillK (L.drop o) (i + 1 - o) = fillK (L.drop o) (i - o) + flN (L.getD i pr0) := by
      rw [show i + 1 - o = (i - o) + 1 by omega, fillK_drop, show o + (i - o) = i by omega]
    have h : c ∈ (if s ≤ fillK (L.drop o) (i - o) + flN (L.getD i pr0) ∨ L.length ≤ i + 1 then (o, i + 1) :: ctG s L f (i + 1) (i + 1) 0 else ctG s L f (i + 1) o (fillK (L.drop o) (i - o) + flN (L.getD i pr0))) := h
    split at h
    · rcases List.mem_cons.1 h with rfl | h
      · exact ⟨by show o < i + 1; omega, by show fillK (L.drop o) (i + 1 - o - 1) < s; rw [show i + 1 - o - 1 = i - o by omega]; exact h3⟩
      · have e : (0 : Nat) = fillK (L.drop (i + 1)) (i + 1 - (i + 1)) := by rw [Nat.sub_self]; rfl
        rw [e] at h
        exact ct_inner s L f (i + 1) (i + 1) (by omega) (Nat.le_refl _) (by rw [Nat.sub_self]; exact h4) h4 c h
    · rename_i hc
      rw [← hst] at h
      exact ct_inner s L f (i + 1) o (by omega) (by omega) (by rw [hst]; omega) h4 c h
/-- The first cut of a block that goes on. -/
theorem ct_head (s : Nat) (L : List Pr) : ∀ f i o n, i + f = L.length → o < i → 0 < f → ∃ c r, ctG s L f i o n = c :: r ∧ c.1 = o ∧ i + 1 ≤ c.2
  | 0, _, _, _, _, _, h => absurd h (Nat.lt_irrefl _)
  | f + 1, i, o, n, h1, h2, _ => by
    by_cases hc : s ≤ n + flN (L.getD i pr0) ∨ L.length ≤ i + 1
    · exact ⟨(o, i + 1), ctG s L f (i + 1) (i + 1) 0, by show (if _ then _ else _) = _; rw [if_pos hc], rfl, Nat.le_refl _⟩
    · obtain ⟨c, r, q1, q2, q3⟩ := ct_head s L f (i + 1) o (n + flN (L.getD i pr0)) (by omega) (by omega) (by omega)
      exact ⟨c, r, by show (if _ then _ else _) = _; rw [if_neg hc, q1], q2, by omega⟩
/-- A smaller size that no block but its last fills, cuts alike. -/
theorem ct_same (s s2 : Nat) (hs : s2 ≤ s) (L : List Pr) : ∀ f i o, i + f = L.length → o ≤ i → (∀ c ∈ ctG s L f i o (fillK (L.drop o) (i - o)), fillK (L.drop c.1) (c.2 - c.1 - 1) < s2) → ctG s2 L f i o (fillK (L.drop o) (i - o)) = ctG s L f i o (fillK (L.drop o) (i - o))
  | 0, _, _, _, _, _ => rfl
  | f + 1, i, o, h1, h2, h => by
    have hst : fillK (L.drop o) (i + 1 - o) = fillK (L.drop o) (i - o) + flN (L.getD i pr0) := by
      rw [show i + 1 - o = (i - o) + 1 by omega, fillK_drop, show o + (i - o) = i by omega]
    have h : ∀ c ∈ (if s ≤ fillK (L.drop o) (i - o) + flN (L.getD i pr0) ∨ L.length ≤ i + 1 then (o, i + 1) :: ctG s L f (i + 1) (i + 1) 0 else ctG s L f (i + 1) o (fillK (L.drop o) (i - o) + flN (L.getD i pr0))), fillK (L.drop c.1) (c.2 - c.1 - 1) < s2 := h
    show (if s2 ≤ _ ∨ _ then _ else _) = (if s ≤ _ ∨ _ then _ else _)
    by_cases hc : s ≤ fillK (L.drop o) (i - o) + flN (L.getD i pr0) ∨ L.length ≤ i + 1
    · rw [if_pos hc] at h
      rw [if_pos hc, if_pos (hc.elim (fun h => .inl (Nat.le_trans hs h)) .inr)]
      have e : (0 : Nat) = fillK (L.drop (i + 1)) (i + 1 - (i + 1)) := by rw [Nat.sub_self]; rfl
      rw [e] at h ⊢
      rw [ct_same s s2 hs L f (i + 1) (i + 1) (by omega) (Nat.le_refl _) fun c hc => h c (List.mem_cons_of_mem _ hc)]
    · rw [if_neg hc, ← hst] at h
      obtain ⟨c, r, q1, q2, q3⟩ := ct_head s L f (i + 1) o (fillK (L.drop o) (i + 1 - o)) (by omega) (by omega) (by omega)
      have q4 := h c (by rw [q1]; exact List.mem_cons_self ..)
      rw [q2] at q4
      have q5 := fillK_mono (L.drop o) (i + 1 - o) (c.2 - o - 1 - (i + 1 - o))
      rw [show i + 1 - o + (c.2 - o - 1 - (i + 1 - o)) = c.2 - o - 1 by omega] at q5
      rw [if_neg hc, if_neg (by omega), ← hst]
      exact ct_same s s2 hs L f (i + 1) o (by omega) (by omega) h
theorem cuts_same (s s2 : Nat) (hs : s2 ≤ s) (L : List Pr) (h : ∀ c ∈ cuts s L, fillK (L.drop c.1) (c.2 - c.1 - 1) < s2) : cuts s2 L = cuts s L := by
  have := ct_same s s2 hs L L.length 0 0 (by omega) (Nat.le_refl _) h
  exact this
theorem cuts_inner (s : Nat) (hs : 0 < s) (L : List Pr) : ∀ c ∈ cuts s L, c.1 < c.2 ∧ fillK (L.drop c.1) (c.2 - c.1 - 1) < s :=
  ct_inner s L L.length 0 0 (by omega) (Nat.le_refl _) hs hs
theorem blkK_maxN (b X : Int) (L : List Pr) (hb : b ≤ X) : ∀ k, (∀ j, j < k → (fillK L j : Int) + 1 ≤ X) → blkK b L k ≤ X
  | 0, _ => hb
  | k + 1, h => by
    have h1 := blkK_maxN b X L hb k fun j hj => h j (by omega)
    have h2 := h k (by omega)
    show max (blkK b L k) ((fillK L k : Int) + 1) ≤ X
    omega
theorem blkK_in (b : Int) (L : List Pr) : ∀ k j, j < k → (fillK L j : Int) + 1 ≤ blkK b L k
  | 0, _, h => absurd h (Nat.not_lt_zero _)
  | k + 1, j, h => by
    show _ ≤ max (blkK b L k) ((fillK L k : Int) + 1)
    rcases Nat.lt_or_ge j k with h1 | h1
    · have := blkK_in b L k j h1
      omega
    · obtain rfl : j = k := by omega
      omega

/-! ### What is laid, read. -/
def blksOf (e : Nat) (L : List Pr) (cs : List (Nat × Nat)) : List Bk2 := cs.map fun c => (subP L c, e)
theorem blkL_of (e : Nat) (L : List Pr) (cs : List (Nat × Nat)) (X : Int) (hX : 16 ≤ X) (h : ∀ c ∈ cs, c.1 < c.2 ∧ c.2 ≤ L.length ∧ (fillK (L.drop c.1) (c.2 - c.1 - 1) : Int) + 1 ≤ X) :
    16 ≤ blkL (blksOf e L cs) ∧ blkL (blksOf e L cs) ≤ X ∧ ∀ c ∈ cs, (fillK (L.drop c.1) (c.2 - c.1 - 1) : Int) + 1 ≤ blkL (blksOf e L cs) := by
  have : ∀ (cs : List (Nat × Nat)) (b : Int), b ≤ X → (∀ c ∈ cs, c.1 < c.2 ∧ c.2 ≤ L.length ∧ (fillK (L.drop c.1) (c.2 - c.1 - 1) : Int) + 1 ≤ X) →
      b ≤ (blksOf e L cs).foldl (fun b p => blkK b p.1 p.1.length) b ∧ (blksOf e L cs).foldl (fun b p => blkK b p.1 p.1.length) b ≤ X ∧ ∀ c ∈ cs, (fillK (L.drop c.1) (c.2 - c.1 - 1) : Int) + 1 ≤ (blksOf e L cs).foldl (fun b p => blkK b p.1 p.1.length) b := by
    intro cs
    induction cs with
    | nil => intro b hb _; exact ⟨Int.le_refl _, hb, fun c h => absurd h (List.not_mem_nil)⟩
    | cons c cs ih =>
      intro b hb h
      obtain ⟨g1, g2, g3⟩ := h c (List.mem_cons_self ..)
      have hl := subP_len L c g2
      have hb2 : blkK b (subP L c) (subP L c).length ≤ X := blkK_maxN b X _ hb _ fun j hj => by
        rw [hl] at hj
        rw [fillK_sub L c j (by omega)]
        have q := fillK_mono (L.drop c.1) j (c.2 - c.1 - 1 - j)
        rw [show j + (c.2 - c.1 - 1 - j) = c.2 - c.1 - 1 by omega] at q
        omega
      obtain ⟨i1, i2, i3⟩ := ih _ hb2 fun d hd => h d (List.mem_cons_of_mem _ hd)
      have hge := blkK_ge b (subP L c) (subP L c).length
      have e0 : (blksOf e L (c :: cs)).foldl (fun b p => blkK b p.1 p.1.length) b = (blksOf e L cs).foldl (fun b p => blkK b p.1 p.1.length) (blkK b (subP L c) (subP L c).length) := rfl
      rw [e0]
      refine ⟨by omega, i2, fun d hd => ?_⟩
      rcases List.mem_cons.1 hd with rfl | hd
      · have q := blkK_in b (subP L d) (subP L d).length (d.2 - d.1 - 1) (by rw [hl]; omega)
        rw [fillK_sub L d _ (by omega)] at q
        omega
      · exact i3 d hd
  exact this cs 16 hX h
theorem flat_of (e : Nat) (L : List Pr) : ∀ (cs : List (Nat × Nat)) (o k : Nat), Chain o cs k → k ≤ L.length → flatB (blksOf e L cs) = (L.drop o).take (k - o)
  | [], o, k, h, _ => by
    have h : o = k := h
    rw [h, Nat.sub_self, List.take_zero]
    rfl
  | c :: cs, o, k, ⟨h1, h2, h3⟩, hk => by
    have h4 := chain_le _ _ _ h3
    have e0 : flatB (blksOf e L (c :: cs)) = subP L c ++ flatB (blksOf e L cs) := rfl
    rw [e0, flat_of e L cs c.2 k h3 hk]
    unfold subP
    rw [h1, show k - o = (c.2 - o) + (k - c.2) by omega, List.take_add, List.drop_drop, show o + (c.2 - o) = c.2 by omega]
theorem data_frames (e : Nat) (L : List Pr) : ∀ cs : List (Nat × Nat), dataB e L cs = framesL (cs.map fun c => blockB e (subP L c))
  | [] => rfl
  | c :: cs => by
    show fblk e (subP L c) ++ dataB e L cs = frameL (blockB e (subP L c)) ++ framesL _
    rw [data_frames e L cs]
    rfl
theorem scan_frames {xs : List (List UInt8)} (h : (framesL xs).length < 9223372036854775808) : scanL (framesL xs) = xs := scanL_eq h ⟨[], by rw [List.append_nil], headF_short (by simp)⟩
theorem recs_tb (l : List Ent) (o : Opt) (hb : (TBp l o).length ≤ 50000) :
    recsOf (TBp l o) = ((cuts o.b.toNat (prsE l)).map fun c => blockB o.e.toNat (subP (prsE l) c)) ++ [blockB 1 (idxs o.e.toNat (prsE l) 0 (cuts o.b.toNat (prsE l))), filP l o.n.toNat] := by
  obtain ⟨xs, hxs⟩ : ∃ xs, ((cuts o.b.toNat (prsE l)).map fun c => blockB o.e.toNat (subP (prsE l) c)) ++ [blockB 1 (idxs o.e.toNat (prsE l) 0 (cuts o.b.toNat (prsE l))), filP l o.n.toNat] = xs := ⟨_, rfl⟩
  have ht : ∃ ft, ft.length = 24 ∧ TBp l o = framesL xs ++ ft := by
    refine ⟨footB [(dataB o.e.toNat (prsE l) (cuts o.b.toNat (prsE l))).length, (fblk 1 (idxs o.e.toNat (prsE l) 0 (cuts o.b.toNat (prsE l)))).length, (dataB o.e.toNat (prsE l) (cuts o.b.toNat (prsE l))).length + (fblk 1 (idxs o.e.toNat (prsE l) 0 (cuts o.b.toNat (prsE l)))).length, (frameL (filP l o.n.toNat)).length, l.length], ?_, ?_⟩
    · unfold footB
      rw [List.length_append, footN_len, wordL_length]
      rfl
    · unfold TBp tailT
      rw [lay_is, ← hxs, framesL_append, ← data_frames]
      show _ ++ (_ ++ (_ ++ _)) = (_ ++ (frameL _ ++ (frameL _ ++ []))) ++ _
      rw [List.append_nil, List.append_assoc, List.append_assoc]
      rfl
  obtain ⟨ft, h1, h2⟩ := ht
  rw [hxs]
  unfold recsOf
  have h3 : (TBp l o).length - 24 = (framesL xs).length := by rw [h2, List.length_append, h1]; omega
  rw [h3, h2, List.take_left]
  refine scan_frames ?_
  have := congrArg List.length h2
  rw [List.length_append] at this
  omega
/-- What a table of few bytes is made of. -/
theorem few_tb {l : List Ent} {o : Opt} (hb : (TBp l o).length ≤ 50000) (hr : RightL l) (ho : OkO o) : Few l := by
  have hd : (dataB o.e.toNat (prsE l) (cuts o.b.toNat (prsE l))).length ≤ 50000 := by
    unfold TBp at hb
    rw [tail_len, lay_is] at hb
    simp only at hb
    omega
  have key : ∀ (e : Nat) (L : List Pr) (cs : List (Nat × Nat)) (a k : Nat), Chain a cs k → k ≤ L.length → 3 * (k - a) ≤ (dataB e L cs).length ∧ ∀ i, a ≤ i → i < k → (L.getD i pr0).val.size ≤ (dataB e L cs).length := by
    intro e L cs
    induction cs with
    | nil => intro a k h _; have h : a = k := h; exact ⟨by omega, fun i h1 h2 => by omega⟩
    | cons c cs ih =>
      intro a k ⟨h1, h2, h3⟩ hk
      have h4 := chain_le _ _ _ h3
      obtain ⟨g1, g2⟩ := ih c.2 k h3 hk
      have e0 : dataB e L (c :: cs) = fblk e (subP L c) ++ dataB e L cs := rfl
      have hl := subP_len L c (by omega)
      have q1 := pairsB_ge e (subP L c) (subP L c).length
      have q2 := blockB_len e (subP L c)
      have q3 : (blockB e (subP L c)).length ≤ (fblk e (subP L c)).length := by
        unfold fblk
        rw [frameL_length]
        have := sizeL_pos (blockB e (subP L c)).length
        omega
      rw [e0, List.length_append]
      refine ⟨by omega, fun i hi1 hi2 => ?_⟩
      rcases Nat.lt_or_ge i c.2 with h9 | h9
      · have r1 := key_len e (subP L c) (i - a)
        have r2 := congrArg List.length (pairsB_rest e (subP L c) ((subP L c).length - (i - a + 1)) (i - a + 1))
        rw [show i - a + 1 + ((subP L c).length - (i - a + 1)) = (subP L c).length by omega, List.length_append] at r2
        rw [subP_get L c (i - a) (by omega), show c.1 + (i - a) = i by omega] at r1
        omega
      · have := g2 i h9 hi2
        omega
  obtain ⟨k1, k2⟩ := key o.e.toNat (prsE l) _ 0 _ (cuts_chain o.b.toNat (prsE l)) (Nat.le_refl _)
  rw [prsE_len] at k1 k2
  refine ⟨by omega, fun x hx => ?_, fun x hx => ?_⟩
  · obtain ⟨i, hi, rfl⟩ := List.getElem_of_mem hx
    have := (hr.1 i hi).1
    rw [getD_ent l i hi] at this
    obtain ⟨_, h, _⟩ := this
    omega
  · obtain ⟨i, hi, rfl⟩ := List.getElem_of_mem hx
    have := k2 i (Nat.zero_le _) hi
    rw [prsE_get l i hi, getD_ent l i hi] at this
    have this : (l[i]).val.size ≤ _ := this
    omega
theorem eL_of (e : Nat) (L : List Pr) (cs : List (Nat × Nat)) (h : cs ≠ []) : eL (blksOf e L cs) = (e : Int) := by
  have : ∀ (cs : List (Nat × Nat)) (b : Int), (blksOf e L cs).foldl (fun _ p => (p.2 : Int)) b = if cs = [] then b else (e : Int) := by
    intro cs
    induction cs with
    | nil => intro b; rfl
    | cons c cs ih =>
      intro b
      have e0 : (blksOf e L (c :: cs)).foldl (fun _ p => (p.2 : Int)) b = (blksOf e L cs).foldl (fun _ p => (p.2 : Int)) (e : Int) := rfl
      rw [e0, ih]
      split <;> simp
  unfold eL
  rw [this, if_neg h]
/-- A TABLE'S BYTES READ AS ITS ENTRIES, and the options that are read make the same bytes. -/
theorem good_tb {l : List Ent} {o : Opt} (hb : (TBp l o).length ≤ 50000) (hr : RightL l) (ho : OkO o) :
    ∃ Ls, Good (TBp l o) Ls l ∧ Ls.length = NBp l o ∧ (recsOf (TBp l o)).getD (Ls.length + 1) [] = filP l o.n.toNat ∧
      OkO ⟨blkL Ls, eL Ls, (bitsN l.length (filBs l o.n.toNat).length (probF o.n.toNat) : Int)⟩ ∧ TBp l ⟨blkL Ls, eL Ls, (bitsN l.length (filBs l o.n.toNat).length (probF o.n.toNat) : Int)⟩ = TBp l o := by
  have hfew := few_tb hb hr ho
  obtain ⟨o1, o2, o3, o4, o5, o6⟩ := ho
  have hch := cuts_chain o.b.toNat (prsE l)
  have hrec := recs_tb l o hb
  have hin := chain_in _ _ _ hch
  have hinn := cuts_inner o.b.toNat (by omega) (prsE l)
  have hne : cuts o.b.toNat (prsE l) ≠ [] := fun h => by
    rw [h] at hch
    have hch : 0 = (prsE l).length := hch
    rw [prsE_len] at hch
    have := hr.2.1
    omega
  obtain ⟨cs, hcs⟩ : ∃ cs, cuts o.b.toNat (prsE l) = cs := ⟨_, rfl⟩
  rw [hcs] at hch hrec hin hinn hne
  obtain ⟨e, he⟩ : ∃ e, o.e.toNat = e := ⟨_, rfl⟩
  rw [he] at hrec
  obtain ⟨n, hn⟩ : ∃ n, o.n.toNat = n := ⟨_, rfl⟩
  rw [hn] at hrec ⊢
  have hn1 : 1 ≤ n ∧ n ≤ 32 := by omega
  have hfl : (filBs l n).length = sizeB l.length n := by rw [← filK_all, filK_len _ _ _ (Nat.le_refl _)]
  have hbl : (blksOf e (prsE l) cs).length = cs.length := by unfold blksOf; rw [List.length_map]
  have hlen1 : 1 ≤ cs.length := by
    rcases cs with _ | ⟨c, cs⟩
    · exact absurd rfl hne
    · simp
  have hfilg : (recsOf (TBp l o)).getD ((blksOf e (prsE l) cs).length + 1) [] = filP l n := by
    rw [hrec, hbl, List.getD_eq_getElem?_getD, List.getElem?_append_right (by rw [List.length_map]; omega), List.length_map, show cs.length + 1 - cs.length = 1 by omega]
    rfl
  obtain ⟨b1, b2, b3⟩ := blkL_of e (prsE l) cs o.b o1 fun c hc => ⟨(hinn c hc).1, (hin c hc).2.2, by have := (hinn c hc).2; omega⟩
  have hord : ordP (prsE l) := ord_prsE l fun j hj => (hr.1 j hj)
  have hbits := bitsN_is l.length n hn1.1 hn1.2
  rw [hfl]
  have hcs2 : cuts (blkL (blksOf e (prsE l) cs)).toNat (prsE l) = cs := by
    rw [cuts_same o.b.toNat _ (by omega) (prsE l) (fun c hc => by rw [hcs] at hc; have := b3 c hc; omega), hcs]
  have heL := eL_of e (prsE l) cs hne
  refine ⟨blksOf e (prsE l) cs, ⟨?_, ?_, by rw [hbl]; exact hlen1, ?_, ?_, ?_, hr.2.2, ?_⟩, ?_, hfilg, ?_, ?_⟩
  · unfold TBp
    rw [tail_len]
    omega
  · rw [hrec, hbl, List.length_append, List.length_map]
    rfl
  · intro i hi
    rw [hbl] at hi
    have hci : cs.getD i c00 ∈ cs := by rw [getD_c cs i hi]; exact List.getElem_mem hi
    have e1 : (blksOf e (prsE l) cs).getD i bk0 = (subP (prsE l) (cs.getD i c00), e) := by
      unfold blksOf
      rw [List.getD_eq_getElem?_getD, List.getElem?_map, List.getElem?_eq_getElem hi, getD_c cs i hi]
      rfl
    have e2 : (recsOf (TBp l o)).getD i [] = blockB e (subP (prsE l) (cs.getD i c00)) := by
      rw [hrec, List.getD_eq_getElem?_getD, List.getElem?_append_left (by rw [List.length_map]; exact hi), List.getElem?_map, List.getElem?_eq_getElem hi, getD_c cs i hi]
      rfl
    rw [e1, e2]
    exact ⟨by omega, by omega, subP_ord hord _ (hin _ hci).2.2, rfl⟩
  · rw [flat_of e (prsE l) cs 0 _ hch (Nat.le_refl _), List.drop_zero, Nat.sub_zero, List.take_length]
  · intro x hx
    obtain ⟨i, hi, rfl⟩ := List.getElem_of_mem hx
    have := (hr.1 i hi).1
    rwa [getD_ent l i hi] at this
  · rw [hfilg]
    have hp : (UInt8.ofNat (probF n)).toNat = probF n := toNat_of _ (by unfold probF; omega)
    have hl1 := hfew.len
    have hmul : l.length * n ≤ 17000 * 32 := Nat.mul_le_mul hl1 hn1.2
    unfold wrong filP
    rw [List.length_cons, hfl, List.getD_cons_zero, hp]
    unfold sizeB probF
    omega
  · rw [hbl]
    unfold NBp
    rw [hcs]
  · refine ⟨b1, by show blkL _ ≤ 65536; omega, ?_, ?_, ?_, ?_⟩
    · show 1 ≤ eL _; rw [heL]; omega
    · show eL _ ≤ 64; rw [heL]; omega
    · show (1 : Int) ≤ (bitsN _ _ _ : Nat); omega
    · show ((bitsN _ _ _ : Nat) : Int) ≤ 32; omega
  · unfold TBp
    simp only [Int.toNat_natCast]
    rw [hcs2, hcs, heL, Int.toNat_natCast, he, hn]
    congr 1
    unfold filP filBs
    rw [hbits.2.2.2]
    have : (max (l.length * bitsN l.length (sizeB l.length n) (probF n)) 64 + 7) / 8 = (max (l.length * n) 64 + 7) / 8 := hbits.2.2.1
    rw [this]
/-- What reads is of few bytes. -/
theorem fst_few : ∀ (FS : List (List UInt8)) (Ls : List Bk2), Fst FS Ls → Ls.length ≤ FS.length → 3 * (flatB Ls).length ≤ (framesL FS).length ∧ ∀ p ∈ flatB Ls, p.val.size ≤ (framesL FS).length
  | _, [], _, _ => ⟨Nat.zero_le _, fun p h => absurd h (List.not_mem_nil)⟩
  | [], x :: Ls, _, h => by simp at h
  | d :: FS, x :: Ls, h, hl => by
    have h0 : BlkOf d x.1 x.2 := h 0 (by simp)
    obtain ⟨g1, g2⟩ := fst_few FS Ls (fun i hi => h (i + 1) (by simpa using hi)) (by simpa using hl)
    have e0 : flatB (x :: Ls) = x.1 ++ flatB Ls := rfl
    have e1 : framesL (d :: FS) = frameL d ++ framesL FS := rfl
    have q1 := pairsB_ge x.2 x.1 x.1.length
    have q2 := blockB_len x.2 x.1
    have q3 := sizeL_pos d.length
    rw [h0.2.2.2] at q2
    rw [e0, e1, List.length_append, List.length_append, frameL_length]
    refine ⟨by omega, fun p hp => ?_⟩
    rcases List.mem_append.1 hp with hp | hp
    · obtain ⟨i, hi, rfl⟩ := List.getElem_of_mem hp
      have r1 := key_len x.2 x.1 i
      have r2 := congrArg List.length (pairsB_rest x.2 x.1 (x.1.length - (i + 1)) (i + 1))
      rw [show i + 1 + (x.1.length - (i + 1)) = x.1.length by omega, List.length_append] at r2
      rw [getD_pr x.1 i hi] at r1
      omega
    · have := g2 p hp
      omega
theorem good_few {b : List UInt8} (hb : b.length ≤ 50000) {Ls : List Bk2} {l : List Ent} (h : Good b Ls l) : Few l := by
  have h1 : (framesL (recsOf b)).length ≤ b.length := by
    have q := (scanL_is (b.take (b.length - 24))).le
    rw [List.length_take] at q
    have q : (framesL (recsOf b)).length ≤ _ := q
    omega
  obtain ⟨g1, g2⟩ := fst_few _ Ls h.blk (by have := h.num; omega)
  rw [← h.prs, prsE_len] at g1
  refine ⟨by omega, fun x hx => ?_, fun x hx => ?_⟩
  · obtain ⟨_, h9, _⟩ := h.rt x hx
    omega
  · have := g2 (prE x) (by rw [← h.prs]; exact List.mem_map_of_mem hx)
    have this : x.val.size ≤ _ := this
    omega
/-- What a filter is made of is there. -/
theorem fil_has (l : List Ent) (n : Nat) (x : Ent) (hx : x ∈ l) : hasB (filBs l n) (places (bs x.u) (8 * (filBs l n).length) (probF n)) = true := by
  have hl : ∀ (m : List Ent) (b : List UInt8), (m.foldl (fun b x => putAll b (places (bs x.u) (8 * b.length) (probF n))) b).length = b.length := by
    intro m
    induction m with
    | nil => intro b; rfl
    | cons y m ih => intro b; rw [List.foldl_cons, ih, putAll_length]
  have : ∀ (m : List Ent) (b : List UInt8), 0 < b.length → (∀ qs, hasB b qs = true → hasB (m.foldl (fun b x => putAll b (places (bs x.u) (8 * b.length) (probF n))) b) qs = true) ∧ ∀ y ∈ m, hasB (m.foldl (fun b x => putAll b (places (bs x.u) (8 * b.length) (probF n))) b) (places (bs y.u) (8 * b.length) (probF n)) = true := by
    intro m
    induction m with
    | nil => intro b _; exact ⟨fun qs h => h, fun y h => absurd h (List.not_mem_nil)⟩
    | cons z m ih =>
      intro b hb
      obtain ⟨g1, g2⟩ := ih (putAll b (places (bs z.u) (8 * b.length) (probF n))) (by rw [putAll_length]; exact hb)
      rw [putAll_length] at g2
      refine ⟨fun qs h => g1 qs (hasB_more _ _ _ (places_in _ _ _ hb) h), fun y hy => ?_⟩
      rcases List.mem_cons.1 hy with rfl | hy
      · exact g1 _ (hasB_put _ _ (places_in _ _ _ hb))
      · exact g2 y hy
  unfold filBs
  rw [hl]
  exact (this l _ (by rw [List.length_replicate]; omega)).2 x hx
end Go.Proofs.YtlobnbbndkhcbaaGreatDoor
