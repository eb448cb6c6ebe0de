/-
  Texts of layer 13 and of what it stands on, one behind the other.
-/
import Derived.Test.YtlobnbbndkhcbaaGreatDoorMg39

/- Layer 13, the program's own: read. -/
namespace Go.Proofs.YtlobnbbndkhcbaaGreatDoor
set_option linter.unusedVariables false
set_option linter.unusedSimpArgs false
open Go.RowKit

abbrev Bk2 : Type := List Pr × Nat
def bk0 : Bk2 := ([], 0)
def flatB (Ls : List Bk2) : List Pr := Ls.flatMap (·.1)
def blkL (Ls : List Bk2) : Int := Ls.foldl (fun b p => blkK b p.1 p.1.length) 16
def eL (Ls : List Bk2) : Int := Ls.foldl (fun _ p => (p.2 : Int)) 0
theorem flatB_snoc (Ls : List Bk2) (x : Bk2) : flatB (Ls ++ [x]) = flatB Ls ++ x.1 := by unfold flatB; simp
theorem blkL_snoc (Ls : List Bk2) (x : Bk2) : blkL (Ls ++ [x]) = blkK (blkL Ls) x.1 x.1.length := by unfold blkL; simp
theorem eL_snoc (Ls : List Bk2) (x : Bk2) : eL (Ls ++ [x]) = (x.2 : Int) := by unfold eL; simp
/-- The records that stand ahead of a foot. -/
noncomputable def recsOf (b : List UInt8) : List (List UInt8) := scanL (b.take (b.length - 24))
/-- The first blocks are those of the first records. -/
def Fst (FS : List (List UInt8)) (Ls : List Bk2) : Prop := ∀ i, i < Ls.length → BlkOf (FS.getD i []) (Ls.getD i bk0).1 (Ls.getD i bk0).2
/-- THESE MAY BE A TABLE'S BYTES: what reads of them. -/
structure Good (b : List UInt8) (Ls : List Bk2) (l : List Ent) : Prop where
  foot : 24 ≤ b.length
  num : (recsOf b).length = Ls.length + 2
  pos : 1 ≤ Ls.length
  blk : Fst (recsOf b) Ls
  prs : prsE l = flatB Ls
  rt : ∀ x ∈ l, RtE x
  len : l.length ≤ 65536
  fil : ¬ wrong ((recsOf b).getD (Ls.length + 1) [])
theorem recs_short {b : List UInt8} (hb : b.length ≤ 100000) (i : Nat) : ((recsOf b).getD i []).length ≤ b.length := by
  by_cases hi : i < (recsOf b).length
  · have hm : (recsOf b).getD i [] ∈ recsOf b := by
      rw [List.getD_eq_getElem?_getD, List.getElem?_eq_getElem hi]
      exact List.getElem_mem hi
    have h1 := framesL_le hm
    have h2 : (framesL (recsOf b)).length ≤ (b.take (b.length - 24)).length := (scanL_is (b.take (b.length - 24))).le
    have h3 : (b.take (b.length - 24)).length ≤ b.length := by rw [List.length_take]; omega
    omega
  · rw [List.getD_eq_getElem?_getD, List.getElem?_eq_none (by omega)]
    exact Nat.zero_le _
theorem getD_bk (Ls : List Bk2) (i : Nat) (h : i < Ls.length) : Ls.getD i bk0 = Ls[i] := by
  rw [List.getD_eq_getElem?_getD, List.getElem?_eq_getElem h]
  rfl
theorem fst_take {b : List UInt8} (hb : b.length ≤ 100000) {Ls Ls' : List Bk2} (h : Fst (recsOf b) Ls) (h' : Fst (recsOf b) Ls') (hk : Ls.length ≤ Ls'.length) : Ls'.take Ls.length = Ls := by
  apply List.ext_getElem
  · rw [List.length_take]; omega
  · intro i h1 h2
    rw [List.getElem_take]
    have q1 := h i h2
    have q2 := h' i (by omega)
    have q3 := blk_one (Nat.le_trans (recs_short hb i) hb) q1 q2
    rw [getD_bk Ls i h2, getD_bk Ls' i (by omega)] at q3
    exact (Prod.ext q3.1 q3.2).symm
/-- Where more blocks may come, the next record is one's. -/
theorem good_next {b : List UInt8} (hb : b.length ≤ 100000) {Ls Ls' : List Bk2} {l' : List Ent} (hG : Good b Ls' l') (h : Fst (recsOf b) Ls) (hk : Ls.length + 2 < (recsOf b).length) :
    ∃ L e l2, BlkOf ((recsOf b).getD Ls.length []) L e ∧ prsE l2 = L ∧ (∀ x ∈ l2, RtE x) ∧ (flatB Ls).length + L.length ≤ 65536 := by
  have hn := hG.num
  have h1 : Ls.length < Ls'.length := by omega
  have h2 := fst_take hb h hG.blk (by omega)
  have h3 : Ls' = Ls ++ Ls'[Ls.length] :: Ls'.drop (Ls.length + 1) := by
    conv => lhs; rw [← List.take_append_drop Ls.length Ls', h2, List.drop_eq_getElem_cons h1]
  have h4 := hG.blk Ls.length h1
  rw [getD_bk Ls' _ h1] at h4
  obtain ⟨x, hx⟩ : ∃ x, Ls'[Ls.length] = x := ⟨_, rfl⟩
  rw [hx] at h3 h4
  have h5 : flatB Ls' = flatB Ls ++ (x.1 ++ flatB (Ls'.drop (Ls.length + 1))) := by
    conv => lhs; rw [h3]
    unfold flatB
    rw [List.flatMap_append, List.flatMap_cons]
  have h6 := hG.prs
  rw [h5] at h6
  have h7 := congrArg List.length h6
  rw [prsE_len, List.length_append, List.length_append] at h7
  refine ⟨x.1, x.2, (l'.drop (flatB Ls).length).take x.1.length, h4, ?_, fun y hy => hG.rt y (List.mem_of_mem_drop (List.mem_of_mem_take hy)), by have := hG.len; omega⟩
  unfold prsE at h6 ⊢
  rw [List.map_take, List.map_drop, h6, List.drop_left, List.take_left]
/-- What reads is one. -/
theorem good_one {b : List UInt8} (hb : b.length ≤ 100000) {Ls Ls' : List Bk2} {l l' : List Ent} (h : Good b Ls l) (h' : Good b Ls' l') : Ls = Ls' ∧ l = l' := by
  have h1 : Ls.length = Ls'.length := by have := h.num; have := h'.num; omega
  have h2 := fst_take hb h.blk h'.blk (by omega)
  rw [h1, List.take_length] at h2
  refine ⟨h2.symm, ?_⟩
  have h3 : prsE l = prsE l' := by rw [h.prs, h'.prs, h2]
  have h4 : l.length = l'.length := by rw [← prsE_len, h3, prsE_len]
  apply List.ext_getElem h4
  intro i g1 g2
  have q1 := prsE_get l i g1
  have q2 := prsE_get l' i g2
  rw [h3, q2] at q1
  rw [getD_ent l i g1, getD_ent l' i g2] at q1
  have r1 := h.rt _ (List.getElem_mem g1)
  have r2 := h'.rt _ (List.getElem_mem g2)
  generalize l[i] = x at *
  generalize l'[i] = y at *
  have e1 : bs (prE y).key = bs (prE x).key := by rw [q1]
  rw [bs_prE, bs_prE] at e1
  have p1 : ∀ z : Ent, RtE z → parseS (keyB z) = some (z.u.data.toList, z.q, z.k) := fun z hz => parse_enc _ _ _ (by
    have h3 : z.u.data.toList.length = z.u.size := by rw [Array.length_toList]; rfl
    rw [h3]
    exact hz)
  have e2 := p1 x r1
  rw [← e1, p1 y r2] at e2
  obtain ⟨a1, a2⟩ := Prod.mk.inj (Option.some.inj e2)
  obtain ⟨a3, a4⟩ := Prod.mk.inj a2
  have a5 : y.val = x.val := congrArg Pr.val q1
  have a6 : y.u = x.u := bs_inj' a1
  cases x
  cases y
  simp only at a3 a4 a5 a6
  subst a3 a4 a5 a6
  rfl
theorem TS.setF {W : World} {B t ob : Nat} {ve fv : Value} {l : List Ent} {c : Int} {o : Opt} (h : TS W B t ob ve fv l c o) (u : Value) :
    TS (W.setCell ⟨t, 1, none⟩ u) B t ob ve u l c o ∧ Fr (fun k => B ≤ k) W (W.setCell ⟨t, 1, none⟩ u) := by
  have f := fr_one W t 1 u
  exact ⟨⟨h.hd.set_ 1 u, h.op.keep f (fun e => h.ne e.symm), h.row.keep f (fun k hk e => h.nt.1 (by have e : k = t := e; rw [← e]; exact hk)), h.own, h.tb, h.ob⟩, f.sub fun k _ e => by have e : k = t := e; have := h.tb; omega⟩
theorem read_results (tmps : Array Value) (w : World) (g : Nat) (u v x y z : Value) (h2 : tmps.getD 2 undef = u) (h4 : tmps.getD 4 undef = v) (hp : tmps.getD 3 undef = .pointer (some ⟨g, 0, none⟩)) (hg : At w g 24 #[x, y, z]) :
    (results Tryz.f52 tmps).run Tryz.prog w = .ok (.tuple #[u, .agg #[x, y, z], v]) w := by
  have hp' : tmps[3]?.getD undef = .pointer (some ⟨g, 0, none⟩) := by simpa using hp
  have h2' : tmps[2]?.getD undef = u := by simpa using h2
  have h4' : tmps[4]?.getD undef = v := by simpa using h4
  have hl := run_loadVar_row (P := Tryz.prog) w g 24 24 #[x, y, z] (0, 0) _ hg Tryz.underlying24 rfl (by kernel_rfl)
  simp [results, Tryz.results52, hp', h2', h4', asAddr, hl]
/-- What read answers. -/
def RdRet (b : List UInt8) (w : World) (en : Ending) (w' : World) : Prop :=
  (∃ Ls l t ve bf g fb p o, Good b Ls l ∧ (recsOf b).getD (Ls.length + 1) [] = UInt8.ofNat p :: fb ∧ 1 ≤ p ∧ p ≤ 30 ∧ o = Opt.mk (blkL Ls) (eL Ls) (bitsN l.length fb.length p : Int) ∧
    en = .returned (.tuple #[.pointer (some ⟨t, 0, none⟩), optV o, .bool true]) ∧ At w' t 103 #[ve, .pointer (some ⟨bf, 0, none⟩), .int .i64 (Ls.length : Int)] ∧ RowG w' (Own1 ve) 49 4 ve l.length (entsC l) ∧ Fil w' bf g fb p ∧
    w.heap.size ≤ t ∧ (∀ k, ve.ownBlock = some k → w.heap.size ≤ k) ∧ w.heap.size ≤ bf ∧ w.heap.size ≤ g ∧ Fr No w w') ∨
  ((∀ Ls l, ¬ Good b Ls l) ∧ (∃ o, en = .returned (.tuple #[.pointer none, optV o, .bool false])) ∧ Fr No w w')
end Go.Proofs.YtlobnbbndkhcbaaGreatDoor
