/-
  Texts of layer 13 and of what it stands on, one behind the other.
-/
import Derived.Test.YtlobnbbndkhcbaaGreatDoorMg45
import Derived.Test.YtlobnbbndkhcbaaGreatDoorMg44
import Derived.Test.YtlobnbbndkhcbaaGreatDoorMg25
import Derived.Test.YtlobnbbndkhcbaaGreatDoorMg15

/- Layer 13, the program's own: package table keeps what the laws ask of it. -/
namespace Go.Proofs.YtlobnbbndkhcbaaGreatDoor
set_option linter.unusedVariables false
set_option linter.unusedSimpArgs false
open Go.RowKit

def LowKV (mk mv : Nat) (l : List Pr) : Prop := ∀ i, i < l.length → (l.getD i pr0).key.size ≤ mk ∧ (l.getD i pr0).val.size ≤ mv
theorem pairs_le {e mk mv : Nat} (l : List Pr) (hk : mk ≤ 1000) (hv : mv ≤ 1000) (h : LowKV mk mv l) : ∀ k, k ≤ l.length → (pairsB e l k).length ≤ k * (27 + mk + mv)
  | 0, _ => Nat.zero_le _
  | k + 1, hkl => by
    have ih := pairs_le (e := e) l hk hv h k (by omega)
    obtain ⟨h1, h2⟩ := h k (by omega)
    have e0 : pairsB e l (k + 1) = pairsB e l k ++ pairB e l k := rfl
    have e1 : pairB e l k = oneB (l.getD k pr0) (headN e l k) := rfl
    have q1 := enc_len9 (show headN e l k < 9223372036854775808 by have := headN_le e l k; omega)
    have q2 := enc_len9 (show (l.getD k pr0).key.size - headN e l k < 9223372036854775808 by omega)
    have q3 := enc_len9 (show (l.getD k pr0).val.size < 9223372036854775808 by omega)
    have q4 : (pairB e l k).length ≤ 27 + mk + mv := by
      rw [e1]
      unfold oneB
      simp only [List.length_append, List.length_drop, bs_length]
      omega
    rw [e0, List.length_append, Nat.add_mul, Nat.one_mul]
    omega
/-- A table's bytes, bounded by what its entries have. -/
theorem fblk_le {e : Nat} {g : List Pr} {mk mv : Nat} (hk : mk ≤ 1000) (hv : mv ≤ 1000) (h : LowKV mk mv g) (hg : g.length ≤ 100) : (fblk e g).length ≤ g.length * (31 + mk + mv) + 18 := by
  unfold fblk
  have q1 := pairs_le (e := e) g hk hv h g.length (Nat.le_refl _)
  have q3 := startsN_len e g g.length
  have q4 := blockB_len e g
  have q6 : g.length * (27 + mk + mv) + 4 * g.length = g.length * (31 + mk + mv) := by rw [Nat.mul_comm 4, ← Nat.mul_add]; congr 1; omega
  have q7 : g.length * (31 + mk + mv) ≤ 100 * (31 + 1000 + 1000) := Nat.mul_le_mul hg (by omega)
  rw [frameL_length]
  have q5 := sizeL_le (n := (blockB e g).length) (by omega)
  omega
theorem subP_lowKV {L : List Pr} {mk mv : Nat} (h : LowKV mk mv L) (c : Nat × Nat) (hc : c.2 ≤ L.length) : LowKV mk mv (subP L c) := fun i hi => by
  rw [subP_len L c hc] at hi
  rw [subP_get L c i hi]
  exact h _ (by omega)
theorem data_le (e : Nat) {mk mv : Nat} {L : List Pr} (hmk : mk ≤ 1000) (hmv : mv ≤ 1000) (hlow : LowKV mk mv L) (h100 : L.length ≤ 100) : ∀ (cs : List (Nat × Nat)) (o k : Nat), Chain o cs k → k ≤ L.length → (dataB e L cs).length ≤ (k - o) * (49 + mk + mv)
  | [], _, _, _, _ => Nat.zero_le _
  | c :: cs, o, k, ⟨h1, h2, h3⟩, hk => by
    have h4 := chain_le _ _ _ h3
    have e0 : dataB e L (c :: cs) = fblk e (subP L c) ++ dataB e L cs := rfl
    have hl := subP_len L c (by omega)
    have q1 := fblk_le (e := e) hmk hmv (subP_lowKV hlow c (by omega)) (by omega)
    have q2 := data_le e hmk hmv hlow h100 cs c.2 k h3 hk
    rw [hl, h1] at q1
    rw [e0, List.length_append]
    have q3 : (c.2 - o) * (31 + mk + mv) + 18 ≤ (c.2 - o) * (49 + mk + mv) := by
      have q : (c.2 - o) * (49 + mk + mv) = (c.2 - o) * (31 + mk + mv) + (c.2 - o) * 18 := by rw [← Nat.mul_add]; congr 1; omega
      omega
    have q4 : (c.2 - o) * (49 + mk + mv) + (k - c.2) * (49 + mk + mv) = (k - o) * (49 + mk + mv) := by rw [← Nat.add_mul]; congr 1; omega
    omega
theorem idxs_lowKV (e : Nat) {L : List Pr} {mk mv : Nat} (hl : LowKV mk mv L) (hb : ∀ c, (fblk e (subP L c)).length ≤ 1800000000) : ∀ (cs : List (Nat × Nat)) (d o k : Nat), Chain o cs k → k ≤ L.length → d + cs.length * 1800000000 ≤ 100000000000000 → LowKV mk 18 (idxs e L d cs)
  | [], _, _, _, _, _, _ => fun i hi => by simp [idxs] at hi
  | c :: cs, d, o, k, ⟨h1, h2, h3⟩, hk, hd => fun i hi => by
    have h4 := chain_le _ _ _ h3
    have h5 := hb c
    rw [List.length_cons] at hd
    cases i with
    | zero =>
      refine ⟨(hl (c.2 - 1) (by omega)).1, ?_⟩
      show (strOf (enc d ++ enc (fblk e (subP L c)).length)).size ≤ 18
      rw [size_strT, List.length_append]
      have q1 := enc_len9 (show d < 9223372036854775808 by omega)
      have q2 := enc_len9 (show (fblk e (subP L c)).length < 9223372036854775808 by omega)
      omega
    | succ i => exact idxs_lowKV e hl hb cs _ c.2 k h3 hk (by omega) i (by simpa [idxs] using hi)
theorem TBp_le {l : List Ent} {o : Opt} {m : Nat} (hm : m ≤ 1000) (hv : ∀ x ∈ l, x.val.size ≤ m) (ho : OkO o) (hr : RightL l) (h60 : l.length ≤ 60) : (TBp l o).length ≤ l.length * (376 + m) + 200 := by
  have hp := pairs_all ((rpre_right l).1 hr).2
  have hlow : LowKV 137 m (prsE l) := fun i hi => by
    rw [prsE_len] at hi
    rw [prsE_get l i hi]
    refine ⟨?_, hv _ (getD_memE l i hi)⟩
    show (strOf _).size ≤ 137
    rw [size_strT]
    exact keyB_len _ (hr.1 i hi).1
  have hlow5 : Low 50000 (prsE l) := fun i hi => ⟨Nat.le_trans (hlow i hi).1 (by omega), Nat.le_trans (hlow i hi).2 (by omega)⟩
  have hch := cuts_chain o.b.toNat (prsE l)
  have hlen := prsE_len l
  have hcl := chain_le _ _ _ hch
  have q1 := data_le o.e.toNat (by omega) hm hlow (by omega) _ 0 _ hch (Nat.le_refl _)
  have hcs : (cuts o.b.toNat (prsE l)).length * 1800000000 ≤ 17000 * 1800000000 := Nat.mul_le_mul_right _ (by omega)
  have q2 := idxs_lowKV o.e.toNat hlow (fun c => fblk_sub (by omega) hlow5 c) _ 0 0 _ hch (Nat.le_refl _) (by omega)
  have q3 := idxs_len o.e.toNat (prsE l) (cuts o.b.toNat (prsE l)) 0
  have q4 := fblk_le (e := 1) (by omega) (by omega) q2 (by omega)
  rw [q3] at q4
  have q5 : (cuts o.b.toNat (prsE l)).length * (31 + 137 + 18) ≤ l.length * (31 + 137 + 18) := Nat.mul_le_mul_right _ (by omega)
  have hn : o.n.toNat ≤ 32 := by have := ho.2.2.2.2.2; omega
  have hmul : l.length * o.n.toNat ≤ l.length * 32 := Nat.mul_le_mul_left _ hn
  have hl1 := hr.2.1
  unfold TBp
  rw [tail_len, lay_is, frameL_length]
  simp only
  have q6 : (filP l o.n.toNat).length = 1 + sizeB l.length o.n.toNat := by unfold filP; rw [List.length_cons, filBs_len]; omega
  have q7 := sizeL_le (n := (filP l o.n.toNat).length) (by rw [q6]; unfold sizeB; omega)
  rw [hlen, Nat.sub_zero] at q1
  have q8 : l.length * (49 + 137 + m) + l.length * (31 + 137 + 18) + 4 * l.length = l.length * (376 + m) := by
    rw [← Nat.mul_add, Nat.mul_comm 4, ← Nat.mul_add]
    congr 1
    omega
  have q9 : sizeB l.length o.n.toNat ≤ 4 * l.length + 8 := by unfold sizeB; omega
  omega
theorem tableOK : TableOK TBp NBp Tab TbM where
  tabK := fun h f => h.keep f (fun h => h)
  keep := fun h f hn => h.keep f hn
  lenB := fun l o ho hr hl h60 => by
    have h1 := TBp_le (m := 300) (by omega) (fun x hx => (hl x hx).2) ho hr h60
    have h2 : l.length * (376 + 300) ≤ 60 * (376 + 300) := Nat.mul_le_mul_right _ h60
    omega
  lenA := fun x o ho hx h1 h2 => by
    have hr : RightL [x] := ⟨fun i hi => by
      have h0 : i = 0 := by simpa using hi
      subst h0
      exact ⟨hx, fun h => by omega⟩, by simp, by simp⟩
    have h3 := TBp_le (m := 1) (by omega) (fun y hy => by rw [List.mem_singleton.1 hy]; exact h2) ho hr (by simp)
    have h4 : [x].length = 1 := rfl
    rw [h4] at h3
    omega
  numA := fun x o ho hx => by
    unfold NBp cuts ctG
    simp [prsE, ctG]
  cmp := fun w u u' q k q' k' => cmp_c u u' q k q' k' w
  check := fun w o _ => tcheck_c w o
  build := fun w S a n cap l o most ht h1 h2 h3 h4 h5 h6 h7 h8 h9 => tbuild_c w S a n cap l o most ht h1 h2 h3 ⟨by omega, fun x hx => Nat.le_trans (h5 x hx).1 (by omega), fun x hx => Nat.le_trans (h5 x hx).2 (by omega)⟩ h6
  open_ := fun w a n cap b ht h1 h2 h3 h4 h5 => topen_c w a n cap b ht h1 h2 h3 h4 h5
  len := fun _ _ _ _ _ h => tlen_c h
  blocks := fun _ _ _ _ _ h => tblocks_c h
  small := fun _ _ _ _ _ h => tsmall_c h
  large := fun _ _ _ _ _ h => tlarge_c h
  entries := fun _ _ _ _ _ h => tentries_c h
  get := fun _ _ _ _ _ u at_ h _ _ => tget_c u at_ h
  may := fun _ _ _ _ _ u ht h hu => tmay_c u ht h hu
end Go.Proofs.YtlobnbbndkhcbaaGreatDoor
