/-
  Texts of layer 13 on Fit, one behind the other.
-/
import Derived.Test.YtlobnbbndkhcbaaGreatDoorMg38
import Derived.Test.YtlobnbbndkhcbaaGreatDoorMg20
import Derived.Test.YtlobnbbndkhcbaaGreatDoorMg14
import Derived.Test.YtlobnbbndkhcbaaGreatDoorMg30
import Derived.Deep.QuietTactic
import Derived.BigQuiet
import Derived.Deep.RegionHeld3
import Derived.Deep.RegionWith

/- Layer 13, the program's own: plain mathematics of Fit: how many bytes a table of the first pairs has. -/
namespace Go.Proofs.YtlobnbbndkhcbaaGreatDoor
set_option linter.unusedVariables false
set_option linter.unusedSimpArgs false

/-- How many bytes a block of pairs has, but for its count and its step. -/
def szB (e : Nat) (g : List Pr) : Nat := (pairsB e g g.length).length + 4 * (startsN e g g.length).length
theorem fblk_sz (e : Nat) (g : List Pr) : (fblk e g).length = sizeL (szB e g + 4 + 1) := by
  unfold fblk szB
  rw [frameL_length]
  congr 1
  unfold blockB
  rw [List.length_append, List.length_append, List.length_append, wordsB_len, word4_len]
  rfl
theorem szB_nil (e : Nat) : szB e [] = 0 := rfl
/-- How many bytes one more pair has. -/
def oneN (e : Nat) (g : List Pr) (x : Pr) : Nat := (enc (shr e g x)).length + (enc (x.key.size - shr e g x)).length + (enc x.val.size).length + (x.key.size - shr e g x) + x.val.size
theorem szB_step (e : Nat) (g : List Pr) (x : Pr) : szB e (g ++ [x]) = (szB e g + if g.length % e = 0 then 4 else 0) + oneN e g x := by
  unfold szB oneN
  rw [show (g ++ [x]).length = g.length + 1 by rw [List.length_append]; rfl, pairs_step, starts_step]
  unfold oneB
  have := shr_le e g x
  split
  · simp only [List.length_append, List.length_drop, bs_length, List.length_singleton]
    omega
  · simp only [List.length_append, List.length_drop, bs_length]
    omega
theorem szB_le (e : Nat) (g : List Pr) (m : Nat) (hm : m ≤ 1000000) (h : Low m g) : szB e g ≤ g.length * (31 + 2 * m) := by
  have h1 := pairsB_len e g m hm h g.length (Nat.le_refl _)
  have h2 := startsN_len e g g.length
  have h3 : g.length * (31 + 2 * m) = g.length * (27 + 2 * m) + g.length * 4 := by rw [← Nat.mul_add]; congr 1; omega
  unfold szB
  omega

/-! ### The blocks that ended, and the one that goes on. -/
structure MS where
  cs : List (Nat × Nat)
  o : Nat
  n : Nat
def msS (s : Nat) (L : List Pr) (i : Nat) (m : MS) : MS := if s ≤ m.n + flN (L.getD i pr0) then ⟨m.cs ++ [(m.o, i + 1)], i + 1, 0⟩ else ⟨m.cs, m.o, m.n + flN (L.getD i pr0)⟩
def msN (s : Nat) (L : List Pr) : Nat → MS
  | 0 => ⟨[], 0, 0⟩
  | k + 1 => msS s L k (msN s L k)
theorem msN_o (s : Nat) (L : List Pr) : ∀ k, (msN s L k).o ≤ k
  | 0 => Nat.le_refl _
  | k + 1 => by
    have := msN_o s L k
    show (msS s L k (msN s L k)).o ≤ k + 1
    unfold msS
    split
    · exact Nat.le_refl _
    · exact Nat.le_succ_of_le this
theorem msN_chain (s : Nat) (L : List Pr) : ∀ k, Chain 0 (msN s L k).cs (msN s L k).o
  | 0 => rfl
  | k + 1 => by
    have h1 := msN_chain s L k
    have h2 := msN_o s L k
    show Chain 0 (msS s L k (msN s L k)).cs (msS s L k (msN s L k)).o
    unfold msS
    split
    · exact (chain_app _ _ _ _).2 ⟨_, h1, rfl, by show _ < k + 1; omega, rfl⟩
    · exact h1
/-- The cuts of the first pairs. -/
def msC (m : MS) (k : Nat) : List (Nat × Nat) := m.cs ++ if m.o < k then [(m.o, k)] else []
theorem take_getP (L : List Pr) (k i : Nat) (h : i < k) : (L.take k).getD i pr0 = L.getD i pr0 := by
  rw [List.getD_eq_getElem?_getD, List.getD_eq_getElem?_getD, List.getElem?_take_of_lt h]
theorem ctG_ms (s : Nat) (L : List Pr) (k : Nat) (hk : k ≤ L.length) : ∀ f i, i + (f + 1) = k → (msN s L i).cs ++ ctG s (L.take k) (f + 1) i (msN s L i).o (msN s L i).n = msC (msN s L k) k
  | f, i, h => by
    have ho := msN_o s L i
    have hl : (L.take k).length = k := by rw [List.length_take]; omega
    have hs : msN s L (i + 1) = msS s L i (msN s L i) := rfl
    unfold msS at hs
    show _ ++ (if _ then _ else _) = _
    rw [take_getP L k i (by omega), hl]
    by_cases hc : s ≤ (msN s L i).n + flN (L.getD i pr0)
    · rw [if_pos hc] at hs
      rw [if_pos (.inl hc)]
      match f, h with
      | 0, h =>
        obtain rfl : k = i + 1 := by omega
        unfold msC
        rw [hs, if_neg (Nat.lt_irrefl _), List.append_nil]
        rfl
      | f + 1, h =>
        have ih := ctG_ms s L k hk f (i + 1) (by omega)
        rw [hs] at ih
        rw [← ih]
        simp only [List.append_assoc, List.singleton_append]
    · rw [if_neg hc] at hs
      match f, h with
      | 0, h =>
        obtain rfl : k = i + 1 := by omega
        rw [if_pos (.inr (Nat.le_refl _))]
        unfold msC
        rw [hs, if_pos (by show (msN s L i).o < i + 1; omega)]
        rfl
      | f + 1, h =>
        rw [if_neg (by rintro (h1 | h1); exact hc h1; omega)]
        have ih := ctG_ms s L k hk f (i + 1) (by omega)
        rw [hs] at ih
        exact ih
theorem cuts_ms (s : Nat) (L : List Pr) (k : Nat) (hk : k ≤ L.length) : cuts s (L.take k) = msC (msN s L k) k := by
  have hl : (L.take k).length = k := by rw [List.length_take]; omega
  unfold cuts
  rw [hl]
  match k, hk with
  | 0, _ => rfl
  | k + 1, hk => exact ctG_ms s L (k + 1) hk k 0 (by omega)
theorem foldS_take (e : Nat) (L : List Pr) (k : Nat) : ∀ (cs : List (Nat × Nat)) (st : List UInt8 × List Pr), (∀ c ∈ cs, c.1 < c.2 ∧ c.2 ≤ k) → cs.foldl (layS e (L.take k)) st = cs.foldl (layS e L) st
  | [], _, _ => by rw [List.foldl_nil, List.foldl_nil]
  | c :: cs, st, h => by
    obtain ⟨h1, h2⟩ := h c (List.mem_cons_self ..)
    rw [List.foldl_cons, List.foldl_cons]
    have e1 : layS e (L.take k) st c = layS e L st c := by
      unfold layS
      have e2 : subP (L.take k) c = subP L c := by
        unfold subP
        rw [List.drop_take, List.take_take]
        congr 1
        omega
      rw [e2, take_getP L k (c.2 - 1) (by omega)]
    rw [e1]
    exact foldS_take e L k cs _ fun d hd => h d (List.mem_cons_of_mem _ hd)
theorem layG_take (e : Nat) (L : List Pr) (k : Nat) (cs : List (Nat × Nat)) (h : ∀ c ∈ cs, c.1 < c.2 ∧ c.2 ≤ k) : layG e (L.take k) cs = layG e L cs := foldS_take e L k cs _ h
/-- How many bytes a table of the first k pairs has. -/
def msD (s e : Nat) (L : List Pr) (k : Nat) : List UInt8 × List Pr := layG e L (msN s L k).cs
def msE (s e : Nat) (L : List Pr) (k : Nat) : List UInt8 × List Pr := layG e L (msC (msN s L k) k)
def msZ (s e b : Nat) (L : List Pr) (k : Nat) : Nat := (msE s e L k).1.length + (fblk 1 (msE s e L k).2).length + sizeL (1 + (max (k * b) 64 + 7) / 8) + 24
theorem right_take {l : List Ent} {k : Nat} (h1 : 1 ≤ k) (h2 : k ≤ l.length) : RightL (l.take k) ↔ k ≤ rpre l := by
  obtain ⟨g1, g2, g3, g4⟩ := rpre_is l
  have hl : (l.take k).length = k := by rw [List.length_take]; omega
  have e : ∀ i, i < k → (l.take k).getD i ent0 = l.getD i ent0 := fun i hi => by
    rw [List.getD_eq_getElem?_getD, List.getD_eq_getElem?_getD, List.getElem?_take_of_lt hi]
  have eo : ∀ i, i < k → (okA (l.take k) i ↔ okA l i) := fun i hi => by
    unfold okA
    rw [e i hi, e (i - 1) (by omega)]
  obtain ⟨q1, q2, q3, q4⟩ := rpre_is (l.take k)
  rw [rpre_right]
  rw [hl] at q1 q4 ⊢
  constructor
  · rintro ⟨_, h⟩
    rcases Nat.lt_or_ge (rpre l) k with h5 | h5
    · exact absurd ((eo _ h5).1 (q3 _ (by omega))) (g4 (by omega) (by omega))
    · exact h5
  · intro h
    refine ⟨h1, ?_⟩
    rcases Nat.lt_or_ge (rpre (l.take k)) k with h5 | h5
    · exact absurd ((eo _ h5).2 (g3 _ (by omega))) (q4 h5 (by omega))
    · omega
theorem TBp_take (l : List Ent) (o : Opt) (k : Nat) (hk : k ≤ rpre l) : (TBp (l.take k) o).length = msZ o.b.toNat o.e.toNat o.n.toNat (Pairs l) k := by
  have h1 := (rpre_is l).1
  have hp : prsE (l.take k) = (Pairs l).take k := by
    unfold Pairs
    rw [← prsE_take, List.take_take, Nat.min_eq_left hk]
  have hl : (l.take k).length = k := by rw [List.length_take]; omega
  unfold TBp
  rw [tail_len, hp, cuts_ms _ _ _ (by rw [pairs_len]; exact hk), frameL_length]
  have hch := (cuts_chain o.b.toNat ((Pairs l).take k))
  rw [cuts_ms _ _ _ (by rw [pairs_len]; exact hk)] at hch
  have hin := chain_in _ _ _ hch
  rw [layG_take _ _ _ _ fun c hc => ⟨(hin c hc).2.1, by have := (hin c hc).2.2; rw [List.length_take] at this; omega⟩]
  have hf : (filP (l.take k) o.n.toNat).length = 1 + (max (k * o.n.toNat) 64 + 7) / 8 := by
    unfold filP
    rw [List.length_cons, ← filK_all, filK_len _ _ _ (Nat.le_refl _), hl]
    unfold sizeB
    omega
  rw [hf]
  unfold msZ msE
  omega
theorem msD_mono (s e : Nat) (L : List Pr) (k : Nat) : (msD s e L k).1.length ≤ (msD s e L (k + 1)).1.length := by
  unfold msD
  show _ ≤ (layG e L (msS s L k (msN s L k)).cs).1.length
  unfold msS
  split
  · show _ ≤ (layG e L (_ ++ [_])).1.length
    rw [layG_app]
    unfold layS
    rw [List.length_append]
    exact Nat.le_add_right _ _
  · exact Nat.le_refl _
theorem msD_le (s e : Nat) (L : List Pr) {k j : Nat} (h : k ≤ j) : (msD s e L k).1.length ≤ (msD s e L j).1.length := by
  induction h with
  | refl => exact Nat.le_refl _
  | step _ ih => exact Nat.le_trans ih (msD_mono s e L _)
theorem msD_z (s e b : Nat) (L : List Pr) (k : Nat) : (msD s e L k).1.length ≤ msZ s e b L k := by
  have : (msD s e L k).1.length ≤ (msE s e L k).1.length := by
    unfold msD msE msC
    split
    · rw [layG_app]
      unfold layS
      rw [List.length_append]
      exact Nat.le_add_right _ _
    · rw [List.append_nil]
      exact Nat.le_refl _
  unfold msZ
  omega
/-- One round of Fit. -/
def fitS (s e b : Nat) (most : Int) (L : List Pr) : Nat → Nat
  | 0 => 0
  | k + 1 => if (msZ s e b L (k + 1) : Int) ≤ most then k + 1 else fitS s e b most L k
theorem fitS_le (s e b : Nat) (most : Int) (L : List Pr) : ∀ k, fitS s e b most L k ≤ k
  | 0 => Nat.le_refl _
  | k + 1 => by
    have := fitS_le s e b most L k
    unfold fitS
    split <;> omega
theorem build_take (l : List Ent) (o : Opt) (most : Int) (ho : OkO o) (k : Nat) (h1 : 1 ≤ k) (h2 : k ≤ l.length) : buildTE TBp (l.take k) o most = 0 ↔ k ≤ rpre l ∧ (msZ o.b.toNat o.e.toNat o.n.toNat (Pairs l) k : Int) ≤ most := by
  unfold buildTE
  rw [if_neg (fun h => h ho)]
  by_cases h : k ≤ rpre l
  · rw [if_neg (fun h3 => h3 ((right_take h1 h2).2 h)), TBp_take l o k h]
    split
    · exact ⟨fun h => absurd h (by decide), fun h => by omega⟩
    · exact ⟨fun _ => ⟨h, by omega⟩, fun _ => rfl⟩
  · rw [if_pos (fun h3 => h ((right_take h1 h2).1 h3))]
    exact ⟨fun h => absurd h (by decide), fun h3 => absurd h3.1 h⟩
theorem fitN_pre (l : List Ent) (o : Opt) (most : Int) (ho : OkO o) : ∀ k, k ≤ rpre l → fitN TBp l o most k = fitS o.b.toNat o.e.toNat o.n.toNat most (Pairs l) k
  | 0, _ => rfl
  | k + 1, h => by
    have h1 := (rpre_is l).1
    have ih := fitN_pre l o most ho k (by omega)
    have hb := build_take l o most ho (k + 1) (by omega) (by omega)
    unfold fitN fitS
    by_cases h3 : (msZ o.b.toNat o.e.toNat o.n.toNat (Pairs l) (k + 1) : Int) ≤ most
    · rw [if_pos h3, if_pos (hb.2 ⟨h, h3⟩)]
    · rw [if_neg h3, if_neg (fun h4 => h3 (hb.1 h4).2), ih]
theorem fitN_stay (l : List Ent) (o : Opt) (most : Int) (k : Nat) : ∀ j, k ≤ j → (∀ i, k < i → i ≤ j → buildTE TBp (l.take i) o most ≠ 0) → fitN TBp l o most j = fitN TBp l o most k
  | 0, h, _ => by obtain rfl : k = 0 := by omega
                  rfl
  | j + 1, h, hn => by
    rcases Nat.lt_or_ge j k with h1 | h1
    · obtain rfl : k = j + 1 := by omega
      rfl
    · conv => lhs; unfold fitN
      rw [if_neg (hn (j + 1) (by omega) (Nat.le_refl _))]
      exact fitN_stay l o most k j h1 fun i h2 h3 => hn i h2 (by omega)
theorem fitN_end (l : List Ent) (o : Opt) (most : Int) (ho : OkO o) : fitN TBp l o most l.length = fitS o.b.toNat o.e.toNat o.n.toNat most (Pairs l) (Pairs l).length := by
  have h1 := (rpre_is l).1
  rw [pairs_len, ← fitN_pre l o most ho _ (Nat.le_refl _)]
  exact fitN_stay l o most _ _ h1 fun i h2 h3 h4 => by
    have := ((build_take l o most ho i (by omega) h3).1 h4).1
    omega
theorem fitN_brk (l : List Ent) (o : Opt) (most : Int) (ho : OkO o) (k : Nat) (hk : k ≤ (Pairs l).length) (hm : most < ((msD o.b.toNat o.e.toNat (Pairs l) k).1.length : Int)) : fitN TBp l o most l.length = fitS o.b.toNat o.e.toNat o.n.toNat most (Pairs l) k := by
  have h1 := (rpre_is l).1
  rw [pairs_len] at hk
  rw [← fitN_pre l o most ho _ hk]
  exact fitN_stay l o most _ _ (by omega) fun i h2 h3 h4 => by
    have h5 := ((build_take l o most ho i (by omega) h3).1 h4).2
    have h6 := msD_le o.b.toNat o.e.toNat (Pairs l) (show k ≤ i by omega)
    have h7 := msD_z o.b.toNat o.e.toNat o.n.toNat (Pairs l) i
    omega
end Go.Proofs.YtlobnbbndkhcbaaGreatDoor

/- Layer 13, the program's own: what Fit measures by: a measure's parts. -/
namespace Go.Proofs.YtlobnbbndkhcbaaGreatDoor
set_option linter.unusedVariables false
set_option linter.unusedSimpArgs false
open Go.RowKit

set_option maxRecDepth 20000 in
set_option maxHeartbeats 400000 in
theorem bframe_c (w : World) (g off b : Nat) (hc : w.cell? ⟨g, off + 2, none⟩ = some (.int .i64 (b : Int))) (hb : b ≤ 10000000000) :
    Calls Tryz.prog 94 #[.pointer (some ⟨g, off, none⟩)] w fun e w' => e = .returned (.int .i64 (sizeL (b + 4 + 1) : Int)) ∧ w = w' := by
  have C := Lib.hid (fsize_c (b + 4 + 1) w (by omega))
  rw [Int.natCast_add, Int.natCast_add] at C
  go_enter Tryz.func94, Tryz.ntmps94
  go_wp2_with fail
  refine (show Calls _ _ _ _ _ from C.out).mono ?_
  rintro e w' ⟨rfl, rfl⟩
  go_wp2_with fail
  go_ret
  exact ⟨rfl, rfl⟩
set_option maxRecDepth 20000 in
set_option maxHeartbeats 400000 in
theorem mfilter_c (w : World) (g k b : Nat) (h3 : w.cell? ⟨g, 3, none⟩ = some (.int .i64 (k : Int))) (h2 : w.cell? ⟨g, 2, none⟩ = some (.int .i64 (b : Int))) (hk : k ≤ 100000) (hb : b ≤ 32) :
    Calls Tryz.prog 95 #[.pointer (some ⟨g, 0, none⟩)] w (PlainRet (.int .i64 (sizeL (1 + (max (k * b) 64 + 7) / 8) : Int)) w) := by
  have hm : k * b ≤ 100000 * 32 := Nat.mul_le_mul hk hb
  obtain ⟨m, hm'⟩ : ∃ m, k * b = m := ⟨_, rfl⟩
  rw [hm'] at hm ⊢
  have hmm : (k : Int) * (b : Int) = (m : Int) := by rw [← hm', Int.natCast_mul]
  obtain ⟨x, hx⟩ : ∃ x, max m 64 = x := ⟨_, rfl⟩
  have hmax : max (m : Int) 64 = (x : Int) := by omega
  have hxl : x ≤ 3200000 := by omega
  obtain ⟨q, hq⟩ : ∃ q, (x + 7) / 8 = q := ⟨_, rfl⟩
  have hq' : ((x : Int) + 8 - 1) / 8 = (q : Int) := by omega
  have hqt : ((x : Int) + 8 - 1).tdiv 8 = (q : Int) := by rw [Int.tdiv_eq_ediv_of_nonneg (by omega)]; exact hq'
  rw [hx, hq]
  have C := Lib.hid (fun w => fsize_c (1 + q) w (by omega))
  rw [show ((1 + q : Nat) : Int) = 1 + (q : Int) by omega] at C
  go_enter Tryz.func95, Tryz.ntmps95
  go_wp2_with fail
  go_quiet (fail)
  go_wp2_with fail
  refine (show Calls _ _ _ _ _ from C.out _).mono ?_
  rintro e w' ⟨rfl, rfl⟩
  go_wp2_with fail
  go_ret
  exact ⟨rfl, (Fr.refl _ _).drewN _⟩
/-- What a measure has. -/
structure MV where
  k : Nat
  d : Nat
  ic : Nat
  ib : Nat
  il : ByteArray
  oc : Nat
  ob : Nat
  ol : ByteArray
  f : Nat
def mcs (o : Opt) (m : MV) : Array Value := #[.int .i64 o.b, .int .i64 o.e, .int .i64 o.n, .int .i64 (m.k : Int), .int .i64 (m.d : Int), .int .i64 1, .int .i64 (m.ic : Int), .int .i64 (m.ib : Int), .string m.il, .int .i64 o.e, .int .i64 (m.oc : Int), .int .i64 (m.ob : Int), .string m.ol, .int .i64 (m.f : Int)]
def MAt (w : World) (g : Nat) (o : Opt) (m : MV) : Prop := At w g 112 (mcs o m)
def MNew (o : Opt) (w : World) (e : Ending) (w' : World) : Prop := ∃ g, e = .returned (.pointer (some ⟨g, 0, none⟩)) ∧ MAt w' g o ⟨0, 0, 0, 0, ⟨#[]⟩, 0, 0, ⟨#[]⟩, 0⟩ ∧ w.heap.size ≤ g ∧ Fr No w w'
set_option maxRecDepth 20000 in
set_option maxHeartbeats 800000 in
theorem mnew_c (w : World) (o : Opt) : Calls Tryz.prog 57 #[optV o] w (MNew o w) := by
  obtain ⟨W, hW⟩ : ∃ W, w.alloc (.cells #[.int .i64 o.b, .int .i64 o.e, .int .i64 o.n] 24) = W := ⟨_, rfl⟩
  have f0 : Fr No w W := by rw [← hW]; exact (Fr.refl No w).alloc _
  have a0 : At W w.heap.size 24 #[.int .i64 o.b, .int .i64 o.e, .int .i64 o.n] := by rw [← hW]; exact At.new _ _ _
  have c0 := a0.cell 0
  have c1 := a0.cell 1
  have c2 := a0.cell 2
  simp at c0 c1 c2
  have HW := Lib.hid hW
  have F0 := Lib.hid f0
  clear hW f0 a0
  unfold optV
  go_enter Tryz.func57, Tryz.ntmps57
  go_wp2_with fail
  rw [HW.out]
  go_wp2_with fail
  go_ret
  have hs : W.heap.size = w.heap.size + 1 := by rw [← HW.out]; simp
  refine ⟨w.heap.size + 1, rfl, ?_, Nat.le_succ _, F0.out.alloc _⟩
  rw [← hs]
  exact At.new _ _ _
theorem set_same {cs : Array Value} {i : Nat} {v : Value} (h : cs[i]? = some v) (u : Value) : (cs.setIfInBounds i u)[i]? = some u := by
  have : i < cs.size := (Array.getElem?_eq_some_iff.1 h).1
  simp [this]
theorem set_else {cs : Array Value} {i j : Nat} {v : Value} (h : cs[j]? = some v) (hij : i ≠ j) (u : Value) : (cs.setIfInBounds i u)[j]? = some v := by
  rw [Array.getElem?_setIfInBounds, if_neg hij]
  exact h
theorem wrapIn (n : Int) (h1 : -9223372036854775808 ≤ n) (h2 : n ≤ 9223372036854775807) : IntKind.i64.wrap n = n := by rw [IntKind.wrap_i64]; omega
theorem wrap6 (a b c d e f : Int) (h0 : 0 ≤ a) (h1 : 0 ≤ b) (h2 : 0 ≤ c) (h3 : 0 ≤ d) (h4 : 0 ≤ e) (h5 : 0 ≤ f) (h : a + b + c + d + e + f ≤ 9223372036854775807) :
    IntKind.i64.wrap (a + IntKind.i64.wrap (IntKind.i64.wrap (IntKind.i64.wrap (IntKind.i64.wrap (b + c) + d) + e) + f)) = a + b + c + d + e + f := by
  rw [wrapIn (b + c) (by omega) (by omega), wrapIn (b + c + d) (by omega) (by omega), wrapIn (b + c + d + e) (by omega) (by omega), wrapIn (b + c + d + e + f) (by omega) (by omega), wrapIn _ (by omega) (by omega)]
  omega
/-- One more pair is counted in a block. -/
def AddRet (g : Nat) (t : TypeId) (cs : Array Value) (off c b : Nat) (key : ByteArray) (w : World) (e : Ending) (w' : World) : Prop :=
  e = .returned (.tuple #[]) ∧ At w' g t (((cs.setIfInBounds (off + 2) (.int .i64 (b : Int))).setIfInBounds (off + 1) (.int .i64 (c : Int))).setIfInBounds (off + 3) (.string key)) ∧ Fr (One g) w w'
set_option maxRecDepth 20000 in
set_option maxHeartbeats 1600000 in
theorem badd_c (w : World) (g : Nat) (t : TypeId) (cs : Array Value) (off e : Nat) (G : List Pr) (x : Pr) (hat : At w g t cs) (h0 : cs[off]? = some (.int .i64 (e : Int))) (h1 : cs[off + 1]? = some (.int .i64 (G.length : Int))) (h2 : cs[off + 2]? = some (.int .i64 (szB e G : Int))) (h3 : cs[off + 3]? = some (.string (keyAt G G.length)))
    (he : 1 ≤ e) (he2 : e ≤ 64) (hl : G.length ≤ 40000) (hlow : Low 100000 (G ++ [x])) :
    Calls Tryz.prog 91 #[.pointer (some ⟨g, off, none⟩), prV x] w (AddRet g t cs off (G.length + 1) (szB e (G ++ [x])) x.key w) := by
  obtain ⟨W, hW⟩ : ∃ W, w.alloc (.cells #[.string x.key, .string x.val] 74) = W := ⟨_, rfl⟩
  have f0 : Fr No w W := by rw [← hW]; exact (Fr.refl No w).alloc _
  have a0 : At W w.heap.size 74 #[.string x.key, .string x.val] := by rw [← hW]; exact At.new _ _ _
  have aW := hat.keep f0 (fun h => h)
  have p0 := a0.cell 0
  have p1 := a0.cell 1
  simp at p0 p1
  have c0 := (aW.cell off).trans h0
  have c1 := (aW.cell (off + 1)).trans h1
  have c2 := (aW.cell (off + 2)).trans h2
  have c3 := (aW.cell (off + 3)).trans h3
  have z1 := aW.frozen (off + 1)
  have z2 := aW.frozen (off + 2)
  have z3 := aW.frozen (off + 3)
  have hsz := szB_step e G x
  have hszl := szB_le e (G ++ [x]) 100000 (by omega) hlow
  have hx := hlow G.length (by simp)
  rw [getD_app2] at hx
  have hsl := shr_le e G x
  have hshr : shr e G x = if G.length % e = 0 then 0 else shL (bs (keyAt G G.length)) (bs x.key) := rfl
  have hon : oneN e G x = (enc (shr e G x)).length + (enc (x.key.size - shr e G x)).length + (enc x.val.size).length + (x.key.size - shr e G x) + x.val.size := rfl
  have HGL := Lib.hid hat.lt
  have HW := Lib.hid hW
  have F0 := Lib.hid f0
  have A0 := Lib.hid a0
  have AW := Lib.hid aW
  have he0 : ((e : Int) == 0) = false := by rw [beq_eq_false_iff_ne]; omega
  obtain ⟨k, hk⟩ : ∃ k, G.length = k := ⟨_, rfl⟩
  obtain ⟨qm, hqm⟩ : ∃ qm, k % e = qm := ⟨_, rfl⟩
  have hqi : (k : Int) % (e : Int) = (qm : Int) := by rw [← hqm]; rfl
  have hqt : (k : Int).tmod (e : Int) = (qm : Int) := by rw [← Int.ofNat_tmod, hqm]
  rw [hk] at c1 hsz hl hshr c3
  rw [hk]
  have C1 := Lib.hid (fun w => size_c (shr e G x) w (by omega))
  have C2 := Lib.hid (fun w => size_c (x.key.size - shr e G x) w (by omega))
  have C3 := Lib.hid (fun w => size_c x.val.size w (by omega))
  have hl1 := enc_len9 (show shr e G x < 9223372036854775808 by omega)
  have hl2 := enc_len9 (show x.key.size - shr e G x < 9223372036854775808 by omega)
  have hl3 := enc_len9 (show x.val.size < 9223372036854775808 by omega)
  have HSZ := Lib.hid hsz
  have HC0 := Lib.hid h0
  have HC1 := Lib.hid h1
  have HC2 := Lib.hid h2
  have HC3 := Lib.hid h3
  have HSHR := Lib.hid hshr
  have hbz : szB e G ≤ 10000000000 := by
    rw [List.length_append, List.length_singleton, hk] at hszl
    have : (k + 1) * (31 + 2 * 100000) ≤ 40001 * (31 + 2 * 100000) := Nat.mul_le_mul_right _ (by omega)
    omega
  obtain ⟨z, hz⟩ : ∃ z, szB e G = z := ⟨_, rfl⟩
  have HZ := Lib.hid hz
  rw [hz] at hbz c2 HSZ
  obtain ⟨sh, hsh⟩ : ∃ sh, shr e G x = sh := ⟨_, rfl⟩
  rw [hsh] at hsl hon C1 C2 hl1 hl2 HSHR
  obtain ⟨n1, hn1⟩ : ∃ n1, (enc sh).length = n1 := ⟨_, rfl⟩
  obtain ⟨n2, hn2⟩ : ∃ n2, (enc (x.key.size - sh)).length = n2 := ⟨_, rfl⟩
  obtain ⟨n3, hn3⟩ : ∃ n3, (enc x.val.size).length = n3 := ⟨_, rfl⟩
  rw [hn1] at hon hl1 C1
  rw [hn2] at hon hl2 C2
  rw [hn3] at hon hl3 C3
  have HON := Lib.hid hon
  have hkz : (keyAt G k).size ≤ 100000 := by
    unfold keyAt
    split
    · exact Nat.zero_le _
    · have := (hlow (k - 1) (by rw [List.length_append]; omega)).1
      rw [getD_app1 G x (by omega)] at this
      exact this
  clear hn1 hn2 hn3 hsh hz hszl hsz hshr hW f0 a0 aW hat h0 h1 h2 h3 hlow
  have hks := hx.1
  have hvs := hx.2
  unfold prV
  by_cases hq0 : qm = 0
  · have hrem : ((qm : Int) == 0) = true := by rw [beq_iff_eq]; omega
    obtain rfl : sh = 0 := by rw [HSHR.out, if_pos (by omega)]
    have HVAL : Hid (IntKind.i64.wrap ((z : Int) + 4 + IntKind.i64.wrap (IntKind.i64.wrap (IntKind.i64.wrap (IntKind.i64.wrap ((n1 : Int) + (n2 : Int)) + (n3 : Int)) + (x.key.size : Int)) + (x.val.size : Int))) = (szB e (G ++ [x]) : Int)) := Lib.hid (by
      rw [wrap6 _ _ _ _ _ _ (by omega) (by omega) (by omega) (by omega) (by omega) (by omega) (by omega), HSZ.out, HON.out, if_pos (by omega)]
      omega)
    have D1 : Hid (∀ w, Calls Tryz.prog 122 #[.int .i64 0] w fun e w' => e = .returned (.int .i64 (n1 : Int)) ∧ w = w') := C1
    rw [Nat.sub_zero] at C2
    clear C1
    go_enter Tryz.func91, Tryz.ntmps91
    go_wp2_with fail
    rw [HW.out]
    go_quiet (fail)
    go_wp2_with fail
    obtain ⟨W2, hW2⟩ : ∃ W2, (W.drewN nq).setCell ⟨g, off + 2, none⟩ (.int .i64 ((z : Int) + 4)) = W2 := ⟨_, rfl⟩
    rw [hW2]
    have A2 : At W2 g t (cs.setIfInBounds (off + 2) (.int .i64 ((z : Int) + 4))) := by rw [← hW2]; exact (AW.out.keep ((Fr.refl No W).drewN nq) (fun h => h)).set_ _ _
    have F2 : Fr (One g) w W2 := by rw [← hW2]; exact ((F0.out.drewN nq).sub fun _ _ h => h.elim).then_ ((Fr.refl (One g) _).setCell (p := ⟨g, off + 2, none⟩) (fun _ => rfl) _) fun _ _ h => h
    have P2 : At W2 w.heap.size 74 #[.string x.key, .string x.val] := by rw [← hW2]; exact (A0.out.keep ((Fr.refl No W).drewN nq) (fun h => h)).keep ((Fr.refl (One g) _).setCell (p := ⟨g, off + 2, none⟩) (fun _ => rfl) _) (fun h => by have h : w.heap.size = g := h; have := HGL.out; omega)
    have c1 : W2.cell? ⟨g, off + 1, none⟩ = some (.int .i64 (k : Int)) := by rw [A2.cell, ← hk]; exact set_else HC1.out (by omega) _
    have c2 : W2.cell? ⟨g, off + 2, none⟩ = some (.int .i64 ((z : Int) + 4)) := by rw [A2.cell]; exact set_same HC2.out _
    have p0 := P2.cell 0
    have p1 := P2.cell 1
    simp at p0 p1
    have z1 := A2.frozen (off + 1)
    have z2 := A2.frozen (off + 2)
    have z3 := A2.frozen (off + 3)
    go_quiet (fail)
    go_wp2_with fail
    go_region_with
      (first
        | (go_at_call_of 122 (Value.int .i64 0); refine (D1.out _).mono ?_; rintro e w7 ⟨rfl, rfl⟩)
        | (go_at_call_of 122 (Value.int .i64 (x.key.size : Int)); refine (C2.out _).mono ?_; rintro e w7 ⟨rfl, rfl⟩)
        | (go_at_call_of 122 (Value.int .i64 (x.val.size : Int)); refine (C3.out _).mono ?_; rintro e w7 ⟨rfl, rfl⟩))
    all_goals
      obtain ⟨W3, hW3⟩ : ∃ W3, (W2.drewN (nq + 1)).setCell ⟨g, off + 2, none⟩ (.int .i64 (IntKind.i64.wrap ((z : Int) + 4 + IntKind.i64.wrap (IntKind.i64.wrap (IntKind.i64.wrap (IntKind.i64.wrap ((n1 : Int) + (n2 : Int)) + (n3 : Int)) + (x.key.size : Int)) + (x.val.size : Int))))) = W3 := ⟨_, rfl⟩
      rw [hW3]
      rw [HVAL.out] at hW3
      have A3 : At W3 g t (cs.setIfInBounds (off + 2) (.int .i64 (szB e (G ++ [x]) : Int))) := by
        rw [← hW3]
        have := (A2.keep ((Fr.refl No W2).drewN (nq + 1)) (fun h => h)).set_ (off + 2) (.int .i64 (szB e (G ++ [x]) : Int))
        rw [Array.setIfInBounds_setIfInBounds] at this
        exact this
      have F3 : Fr (One g) w W3 := by rw [← hW3]; exact (F2.drewN (nq + 1)).then_ ((Fr.refl (One g) _).setCell (p := ⟨g, off + 2, none⟩) (fun _ => rfl) _) fun _ _ h => h
      have P3 : At W3 w.heap.size 74 #[.string x.key, .string x.val] := by rw [← hW3]; exact (P2.keep ((Fr.refl No W2).drewN (nq + 1)) (fun h => h)).keep ((Fr.refl (One g) _).setCell (p := ⟨g, off + 2, none⟩) (fun _ => rfl) _) (fun h => by have h : w.heap.size = g := h; have := HGL.out; omega)
      have c1 : W3.cell? ⟨g, off + 1, none⟩ = some (.int .i64 (k : Int)) := by rw [A3.cell, ← hk]; exact set_else HC1.out (by omega) _
      have c3 : W3.cell? ⟨g, off + 3, none⟩ = some (.string (keyAt G k)) := by rw [A3.cell, ← hk]; exact set_else HC3.out (by omega) _
      have p0 := P3.cell 0
      simp at p0
      have z1 := A3.frozen (off + 1)
      have z3 := A3.frozen (off + 3)
      have A4 := Lib.hid ((A3.set_ (off + 1) (.int .i64 ((k + 1 : Nat) : Int))).set_ (off + 3) (.string x.key))
      have F4 := Lib.hid ((F3.then_ ((Fr.refl (One g) _).setCell (p := ⟨g, off + 1, none⟩) (fun _ => rfl) (.int .i64 ((k + 1 : Nat) : Int))) fun _ _ h => h).then_ ((Fr.refl (One g) _).setCell (p := ⟨g, off + 3, none⟩) (fun _ => rfl) (.string x.key)) fun _ _ h => h)
      rw [Int.natCast_add, Int.natCast_one] at A4 F4
      clear hW3 A3 F3 P3 A2 F2 P2 c2 p1
      go_wp2_with fail
      go_end0
      refine ⟨rfl, ?_, F4.out⟩
      rw [Int.natCast_add, Int.natCast_one]
      exact A4.out
  · have hrem : ((qm : Int) == 0) = false := by rw [beq_eq_false_iff_ne]; omega
    have hse : sh = shL (bs (keyAt G k)) (bs x.key) := by rw [HSHR.out, if_neg (by omega)]
    have CS := Lib.hid (fun w => bshared_c (keyAt G k) x.key (by unfold maxLen; omega) (by unfold maxLen; omega) w)
    rw [← hse] at CS
    clear hse
    have HVAL : Hid (IntKind.i64.wrap ((z : Int) + IntKind.i64.wrap (IntKind.i64.wrap (IntKind.i64.wrap (IntKind.i64.wrap ((n1 : Int) + (n2 : Int)) + (n3 : Int)) + ((x.key.size : Int) - (sh : Int))) + (x.val.size : Int))) = (szB e (G ++ [x]) : Int)) := Lib.hid (by
      rw [wrap6 _ _ _ _ _ _ (by omega) (by omega) (by omega) (by omega) (by omega) (by omega) (by omega), HSZ.out, HON.out, if_neg (by omega)]
      omega)
    have D1 := C1
    rw [Int.ofNat_sub hsl] at C2
    clear C1
    go_enter Tryz.func91, Tryz.ntmps91
    go_wp2_with fail
    rw [HW.out]
    go_quiet (fail)
    go_wp2_with fail
    go_region_held3 (fun w' => w'.cell? ⟨g, off + 3, none⟩ = some (.string (keyAt G k)) ∧ w'.cell? ⟨w.heap.size, 0, none⟩ = some (.string x.key)) (first | assumption | go_keep)
      (first
        | (go_at_call 121; refine (CS.out _).mono ?_; rintro e W2 ⟨rfl, f7⟩
           have c3 := f7.cell c3 (fun h => h)
           have p0 := f7.cell p0 (fun h => h)
           have HF7 := Lib.hid f7
           clear f7))
    have FW := ((Fr.refl No W).drewN _).trans HF7.out
    have A2 : At W2 g t cs := AW.out.keep FW (fun h => h)
    have F2 : Fr (One g) w W2 := (F0.out.trans FW).sub fun _ _ h => h.elim
    have P2 : At W2 w.heap.size 74 #[.string x.key, .string x.val] := A0.out.keep FW (fun h => h)
    have c1 : W2.cell? ⟨g, off + 1, none⟩ = some (.int .i64 (k : Int)) := by rw [A2.cell, ← hk]; exact HC1.out
    have c2 : W2.cell? ⟨g, off + 2, none⟩ = some (.int .i64 (z : Int)) := by rw [A2.cell, HC2.out, HZ.out]
    clear FW c3
    have p0 := P2.cell 0
    have p1 := P2.cell 1
    simp at p0 p1
    have z1 := A2.frozen (off + 1)
    have z2 := A2.frozen (off + 2)
    have z3 := A2.frozen (off + 3)
    go_wp2_with fail
    go_quiet (fail)
    go_wp2_with fail
    go_region_with
      (first
        | (go_at_call_of 122 (Value.int .i64 (sh : Int)); refine (D1.out _).mono ?_; rintro e w7 ⟨rfl, rfl⟩)
        | (go_at_call_of 122 (Value.int .i64 ((x.key.size : Int) - (sh : Int))); refine (C2.out _).mono ?_; rintro e w7 ⟨rfl, rfl⟩)
        | (go_at_call_of 122 (Value.int .i64 (x.val.size : Int)); refine (C3.out _).mono ?_; rintro e w7 ⟨rfl, rfl⟩))
    all_goals
      obtain ⟨W3, hW3⟩ : ∃ W3, (W2.drewN (nq + 1)).setCell ⟨g, off + 2, none⟩ (.int .i64 (IntKind.i64.wrap ((z : Int) + IntKind.i64.wrap (IntKind.i64.wrap (IntKind.i64.wrap (IntKind.i64.wrap ((n1 : Int) + (n2 : Int)) + (n3 : Int)) + ((x.key.size : Int) - (sh : Int))) + (x.val.size : Int))))) = W3 := ⟨_, rfl⟩
      rw [hW3]
      rw [HVAL.out] at hW3
      have A3 : At W3 g t (cs.setIfInBounds (off + 2) (.int .i64 (szB e (G ++ [x]) : Int))) := by
        rw [← hW3]
        have := (A2.keep ((Fr.refl No W2).drewN (nq + 1)) (fun h => h)).set_ (off + 2) (.int .i64 (szB e (G ++ [x]) : Int))
        exact this
      have F3 : Fr (One g) w W3 := by rw [← hW3]; exact (F2.drewN (nq + 1)).then_ ((Fr.refl (One g) _).setCell (p := ⟨g, off + 2, none⟩) (fun _ => rfl) _) fun _ _ h => h
      have P3 : At W3 w.heap.size 74 #[.string x.key, .string x.val] := by rw [← hW3]; exact (P2.keep ((Fr.refl No W2).drewN (nq + 1)) (fun h => h)).keep ((Fr.refl (One g) _).setCell (p := ⟨g, off + 2, none⟩) (fun _ => rfl) _) (fun h => by have h : w.heap.size = g := h; have := HGL.out; omega)
      have c1 : W3.cell? ⟨g, off + 1, none⟩ = some (.int .i64 (k : Int)) := by rw [A3.cell, ← hk]; exact set_else HC1.out (by omega) _
      have c3 : W3.cell? ⟨g, off + 3, none⟩ = some (.string (keyAt G k)) := by rw [A3.cell, ← hk]; exact set_else HC3.out (by omega) _
      have p0 := P3.cell 0
      simp at p0
      have z1 := A3.frozen (off + 1)
      have z3 := A3.frozen (off + 3)
      have A4 := Lib.hid ((A3.set_ (off + 1) (.int .i64 ((k + 1 : Nat) : Int))).set_ (off + 3) (.string x.key))
      have F4 := Lib.hid ((F3.then_ ((Fr.refl (One g) _).setCell (p := ⟨g, off + 1, none⟩) (fun _ => rfl) (.int .i64 ((k + 1 : Nat) : Int))) fun _ _ h => h).then_ ((Fr.refl (One g) _).setCell (p := ⟨g, off + 3, none⟩) (fun _ => rfl) (.string x.key)) fun _ _ h => h)
      rw [Int.natCast_add, Int.natCast_one] at A4 F4
      clear hW3 A3 F3 P3 A2 F2 P2 c2 p1
      go_wp2_with fail
      go_end0
      refine ⟨rfl, ?_, F4.out⟩
      rw [Int.natCast_add, Int.natCast_one]
      exact A4.out
end Go.Proofs.YtlobnbbndkhcbaaGreatDoor
