/-
  Texts of layer 13 and of what it stands on, one behind the other.
-/
import Derived.Test.YtlobnbbndkhcbaaGreatDoorMg38
import Derived.Test.YtlobnbbndkhcbaaGreatDoorMg28
import Derived.Test.YtlobnbbndkhcbaaGreatDoorMg31
import Derived.Test.YtlobnbbndkhcbaaGreatDoorMg23

/- Layer 13, the program's own: readBlock. -/
namespace Go.Proofs.YtlobnbbndkhcbaaGreatDoor
set_option linter.unusedVariables false
set_option linter.unusedSimpArgs false
open Go.RowKit Go.Shelf
attribute [local go_sem] Oper.semAt_some

theorem rowEnt : RowT Tryz.prog 22 49 (.agg #[.string ⟨#[]⟩, .int .i64 0, .int .i64 0, .string ⟨#[]⟩]) 4 48 := ⟨Tryz.underlying22, by kernel_rfl, rfl, by decide⟩
/-- These are the bytes of a block. -/
def BlkOf (d : List UInt8) (L : List Pr) (e : Nat) : Prop := 1 ≤ e ∧ e ≤ 64 ∧ ordP L ∧ blockB e L = d
def fillK (L : List Pr) : Nat → Nat
  | 0 => 0
  | k + 1 => fillK L k + flN (L.getD k pr0)
def blkK (b : Int) (L : List Pr) : Nat → Int
  | 0 => b
  | k + 1 => max (blkK b L k) ((fillK L k : Int) + 1)
theorem strOf_bsT (s : ByteArray) : strOf (bs s) = s := by
  rcases s with ⟨⟨l⟩⟩
  rfl
/-- What a key's bytes say. -/
theorem ent_of {p : Pr} {u : List UInt8} {q k : Int} (h : parseS (bs p.key) = some (u, q, k)) : RtE ⟨strOf u, q, k, p.val⟩ ∧ prE ⟨strOf u, q, k, p.val⟩ = p := by
  obtain ⟨h1, h2⟩ := parse_some _ _ _ _ h
  have hu : (strOf u).data.toList = u := bs_strT u
  constructor
  · show Rt (strOf u).size q k
    rw [size_strT]
    exact h1
  · unfold prE keyB
    simp only
    rw [hu, h2, strOf_bsT]
theorem ent_no {p : Pr} (h : parseS (bs p.key) = none) (x : Ent) (hx : RtE x) : prE x ≠ p := fun e => by
  have h1 : bs p.key = keyB x := by rw [← e]; exact bs_prE x
  have h2 : parseS (keyB x) = some (x.u.data.toList, x.q, x.k) := parse_enc _ _ _ (by
    have h3 : x.u.data.toList.length = x.u.size := by rw [Array.length_toList]; rfl
    rw [h3]
    exact hx)
  rw [h1, h2] at h
  cases h
/-- THE TABLE that is being read, and its options. -/
structure TS (W : World) (B t ob : Nat) (ve fv : Value) (l : List Ent) (c : Int) (o : Opt) : Prop where
  hd : At W t 103 #[ve, fv, .int .i64 c]
  op : At W ob 24 #[.int .i64 o.b, .int .i64 o.e, .int .i64 o.n]
  row : RowG W (Own1 ve) 49 4 ve l.length (entsC l)
  own : ∀ k, ve.ownBlock = some k → B ≤ k
  tb : B ≤ t
  ob : B ≤ ob
theorem TS.keep {W W' : World} {B t ob : Nat} {ve fv : Value} {l : List Ent} {c : Int} {o : Opt} (h : TS W B t ob ve fv l c o) (f : Fr No W W') : TS W' B t ob ve fv l c o :=
  ⟨h.hd.keep f (fun h => h), h.op.keep f (fun h => h), h.row.keep f (fun _ _ h => h), h.own, h.tb, h.ob⟩
theorem TS.ne {W : World} {B t ob : Nat} {ve fv : Value} {l : List Ent} {c : Int} {o : Opt} (h : TS W B t ob ve fv l c o) : t ≠ ob := fun e => by
  have h1 := h.hd
  rw [e] at h1
  have := h1.symm.trans h.op
  cases this
theorem TS.nt {W : World} {B t ob : Nat} {ve fv : Value} {l : List Ent} {c : Int} {o : Opt} (h : TS W B t ob ve fv l c o) : ve.ownBlock ≠ some t ∧ ve.ownBlock ≠ some ob := by
  obtain ⟨⟨_, h9⟩, _⟩ := h.row
  constructor
  · intro e
    rcases h9 with ⟨rfl, _⟩ | ⟨g, cc, cur, rfl, _, hg, _⟩
    · simp [Value.ownBlock] at e
    · cases Option.some.inj e
      have := h.hd.symm.trans hg
      cases this
  · intro e
    rcases h9 with ⟨rfl, _⟩ | ⟨g, cc, cur, rfl, _, hg, _⟩
    · simp [Value.ownBlock] at e
    · cases Option.some.inj e
      have := h.op.symm.trans hg
      cases this
/-- The options are set. -/
theorem TS.setO {W : World} {B t ob : Nat} {ve fv : Value} {l : List Ent} {c : Int} {o : Opt} (h : TS W B t ob ve fv l c o) (j : Nat) (u : Int) (o' : Opt) (ho : (#[.int .i64 o.b, .int .i64 o.e, .int .i64 o.n] : Array Value).setIfInBounds j (.int .i64 u) = #[.int .i64 o'.b, .int .i64 o'.e, .int .i64 o'.n]) :
    TS (W.setCell ⟨ob, j, none⟩ (.int .i64 u)) B t ob ve fv l c o' ∧ Fr (fun k => B ≤ k) W (W.setCell ⟨ob, j, none⟩ (.int .i64 u)) := by
  have f := fr_one W ob j (.int .i64 u)
  refine ⟨⟨h.hd.keep f (fun e => h.ne e), ?_, h.row.keep f (fun k hk e => h.nt.2 (by have e : k = ob := e; rw [← e]; exact hk)), h.own, h.tb, h.ob⟩, f.sub fun k _ e => by have e : k = ob := e; have := h.ob; omega⟩
  have := h.op.set_ j (.int .i64 u)
  rwa [ho] at this
/-- One entry more. -/
theorem TS.push {W : World} {B t ob : Nat} {ve fv : Value} {l : List Ent} {c : Int} {o : Opt} (h : TS W B t ob ve fv l c o) (hB : B ≤ W.heap.size) (x : Ent) (hl : l.length ≤ 1000000) :
    ∃ v' w', (Builtin.append_ #[22, 22] 22 #[ve, .slice (some ⟨W.heap.size, 0, none⟩) 1 1]).run Tryz.prog (W.alloc (.cells #[.string x.u, .int .i64 x.q, .int .i64 x.k, .string x.val] 49)) = .ok v' w' ∧
      At w' t 103 #[ve, fv, .int .i64 c] ∧ TS (w'.setCell ⟨t, 0, none⟩ v') B t ob v' fv (l ++ [x]) c o ∧ Fr (Own1 ve) W w' ∧ Fr (fun k => B ≤ k) W (w'.setCell ⟨t, 0, none⟩ v') ∧ (∀ k, v'.ownBlock = some k → ve.ownBlock = some k ∨ W.heap.size ≤ k) := by
  have hb : (l.length + 1) * 48 ≤ 1000001 * 48 := Nat.mul_le_mul_right _ (by omega)
  obtain ⟨v', w', h1, h2, h3⟩ := RowG.push rowEnt h.row (fun k hk => (h.row.1.lt k hk).2) (entC x) rfl (by intro u hu; simp [entC] at hu; rcases hu with rfl | rfl | rfl | rfl <;> rfl) (by omega) (by omega)
  have hd := h.hd.keep h3 h.nt.1
  have f := fr_one w' t 0 v'
  have hnew : ∀ k, v'.ownBlock = some k → ve.ownBlock = some k ∨ W.heap.size ≤ k := fun k hk => (h2.2 k hk).elim .inl fun h => .inr h.1
  have hnt : v'.ownBlock ≠ some t := fun e => (hnew t e).elim h.nt.1 fun h9 => by have := h.hd.lt; omega
  refine ⟨v', w', h1, hd, ⟨hd.set_ 0 v', (h.op.keep h3 h.nt.2).keep f (fun e => h.ne e.symm), ?_, fun k hk => (hnew k hk).elim (h.own k) fun h9 => Nat.le_trans hB h9, h.tb, h.ob⟩, h3, (h3.sub (T := fun k => B ≤ k) fun k _ hk => h.own k hk).then_ f fun k hk e => by have e : k = t := e; have := h.tb; omega, hnew⟩
  rw [List.length_append, entsC_append]
  have e : entsC [x] = entC x := by simp [entsC]
  rw [e]
  exact (show RowG w' (Own1 v') 49 4 v' _ _ from ⟨h2.1, fun _ hk => hk⟩).keep f fun k hk e => hnt (by have e : k = t := e; rw [← e]; exact hk)
def RbRet (B t ob : Nat) (fv : Value) (l : List Ent) (c : Int) (o : Opt) (d : List UInt8) (w : World) (en : Ending) (w' : World) : Prop :=
  (∃ L e l2, BlkOf d L e ∧ prsE l2 = L ∧ (∀ x ∈ l2, RtE x) ∧ l.length + L.length ≤ 65536 ∧ en = .returned (.bool true) ∧ (∃ ve, TS w' B t ob ve fv (l ++ l2) c ⟨blkK o.b L L.length, (e : Int), o.n⟩) ∧ Fr (fun k => B ≤ k) w w') ∨
  ((∀ L e l2, BlkOf d L e → prsE l2 = L → (∀ x ∈ l2, RtE x) → 65536 < l.length + L.length) ∧ en = .returned (.bool false) ∧ Fr (fun k => B ≤ k) w w')
theorem blk_one {d : List UInt8} {L L' : List Pr} {e e' : Nat} (hd : d.length ≤ 100000) (h : BlkOf d L e) (h' : BlkOf d L' e') : L = L' ∧ e = e' := by
  obtain ⟨h1, h2, h3, h4⟩ := h
  obtain ⟨g1, g2, g3, g4⟩ := h'
  have := blockB_inj (e := e') (e' := e) (l := L') (l' := L) g2 h2 (by rw [g4]; exact hd) (by rw [h4, g4])
  exact ⟨this.2, this.1⟩
theorem blkK_le (b : Int) (L : List Pr) (hb : b ≤ 4000000000) (hlow : Low 100000 L) : ∀ k, k ≤ L.length → b ≤ blkK b L k ∧ blkK b L k ≤ 4000000001 + 200000 * (k : Int) ∧ fillK L k ≤ 200000 * k
  | 0, _ => ⟨Int.le_refl _, by show b ≤ _; omega, Nat.zero_le _⟩
  | k + 1, h => by
    obtain ⟨h1, h2, h3⟩ := blkK_le b L hb hlow k (by omega)
    have h4 := hlow k (by omega)
    have h5 : flN (L.getD k pr0) ≤ 200000 := by unfold flN; omega
    show b ≤ max (blkK b L k) ((fillK L k : Int) + 1) ∧ max (blkK b L k) ((fillK L k : Int) + 1) ≤ 4000000001 + 200000 * ((k + 1 : Nat) : Int) ∧ fillK L k + flN (L.getD k pr0) ≤ 200000 * (k + 1)
    omega
theorem blkK_max (b X : Int) (L : List Pr) (hb : b ≤ X) (hlow : Low 100000 L) : ∀ k : Nat, (200000 * (k : Int) + 1 ≤ X) → k ≤ L.length → blkK b L k ≤ X
  | 0, _, _ => hb
  | k + 1, h1, h2 => by
    have h3 := blkK_max b X L hb hlow k (by omega) (by omega)
    have h4 : ∀ j, j ≤ L.length → fillK L j ≤ 200000 * j := by
      intro j
      induction j with
      | zero => intro _; exact Nat.zero_le _
      | succ j ih =>
        intro hj
        have q1 := ih (by omega)
        have q2 := hlow j (by omega)
        have q3 : flN (L.getD j pr0) ≤ 200000 := by unfold flN; omega
        show fillK L j + flN (L.getD j pr0) ≤ _
        omega
    have h5 := h4 k (by omega)
    show max (blkK b L k) ((fillK L k : Int) + 1) ≤ X
    omega
theorem blkK_ge (b : Int) (L : List Pr) : ∀ k : Nat, b ≤ blkK b L k
  | 0 => Int.le_refl _
  | k + 1 => by
    have := blkK_ge b L k
    show b ≤ max (blkK b L k) ((fillK L k : Int) + 1)
    omega
set_option maxRecDepth 100000 in
set_option maxHeartbeats 8000000 in
theorem readBlock_c (w : World) (B t ob : Nat) (ve fv : Value) (l : List Ent) (c : Int) (o : Opt) (a : Option Addr) (n cap : Nat) (d : List UInt8) (h : TS w B t ob ve fv l c o) (hB : B ≤ w.heap.size) (hl : l.length ≤ 65536) (hob : o.b ≤ 4000000000) (hob0 : 0 ≤ o.b)
    (hn : d.length = n) (hc : n ≤ cap) (hm : cap ≤ maxLen) (h1 : n ≤ 100000) (hr : Rd w a d) :
    Calls Tryz.prog 82 #[.pointer (some ⟨t, 0, none⟩), .slice a n cap, .pointer (some ⟨ob, 0, none⟩)] w (RbRet B t ob fv l c o d w) := by
  have CO := Lib.hid (open_c w a n cap d hn hc hm h1 hr)
  have HTS := Lib.hid h
  have HDL := Lib.hid (show d.length ≤ 100000 by omega)
  obtain ⟨va, vc, rfl, _⟩ := h.row.form
  clear h hr hn
  go_enter Tryz.func82, Tryz.ntmps82
  go_wp2_with fail
  refine (show Calls _ _ _ _ _ from CO.out).mono ?_
  rintro e1 w1 (⟨L, e, x, F, he1, he2, hord, hblk, rfl, hbk, hF, f1⟩ | ⟨hno, rfl, f1⟩)
  · have HFT : ∃ hh : Fit L e, True := by obtain ⟨_, _, _, _, _, h9⟩ := hbk; exact ⟨h9.ft, trivial⟩
    obtain ⟨hft, _⟩ := HFT
    have HFIT := Lib.hid hft
    have HBLK : Hid (BlkOf d L e) := Lib.hid ⟨he1, he2, hord, hblk⟩
    have HUN : Hid (∀ L' e', BlkOf d L' e' → L' = L ∧ e' = e) := Lib.hid fun L' e' h9 => blk_one HDL.out h9 ⟨he1, he2, hord, hblk⟩
    have HF := Lib.hid hF
    have F1 := Lib.hid f1
    have HBK := Lib.hid hbk
    have HT1 := Lib.hid (HTS.out.keep f1)
    have hl4 := hft.len
    have c0 := HT1.out.hd.cell 0
    simp at c0
    obtain ⟨m, hm'⟩ : ∃ m, L.length = m := ⟨_, rfl⟩
    rw [hm'] at hl4
    have HM := Lib.hid hm'
    have CL1 := Lib.hid (fun w' (f : Fr No w1 w') => blen_c (HBK.out.keep f (fun _ _ h => h)))
    rw [HM.out] at CL1
    obtain ⟨ln, hln⟩ : ∃ ln, l.length = ln := ⟨_, rfl⟩
    rw [hln] at c0 hl
    have HLN := Lib.hid hln
    clear hbk hF f1 hord hblk hft hm' hln
    go_wp2_with fail
    refine wp_region_held_drew (S := (fun w' => w'.cell? ⟨t, 0, none⟩ = some (.slice va ln vc))) (by kernel_rfl) ((Fr.refl No _).drew.cell c0 (fun h => h)) (fun hHeld => ?_)
    refine take_drop (i := 0) (v := ?v0_1) rfl (by kernel_rfl) (by kernel_rfl) (by kernel_rfl) (fun _ _ _ h => h) (Or.inl ⟨by rfl, ?h0_1⟩) hHeld ?r0_1
    case h0_1 => (intro wS hSw; go_simp; all_goals (with_reducible rfl))
    simp only [Act.put, List.setIfInBounds_toArray, List.set_cons_zero, List.set_cons_succ]
    refine take_drop (i := 1) (v := ?v1_1) rfl (by kernel_rfl) (by kernel_rfl) (by kernel_rfl) (fun _ _ _ h => h) (Or.inl ⟨by rfl, ?h1_1⟩) hHeld ?r1_1
    case h1_1 => (intro wS hSw; go_simp; all_goals (with_reducible rfl))
    simp only [Act.put, List.setIfInBounds_toArray, List.set_cons_zero, List.set_cons_succ]
    refine take_drop (i := 2) (v := ?v2_1) rfl (by kernel_rfl) (by kernel_rfl) (by kernel_rfl) (fun _ _ _ h => h) (Or.inl ⟨by rfl, ?h2_1⟩) hHeld ?r2_1
    case h2_1 => (intro wS hSw; go_simp; all_goals (with_reducible rfl))
    simp only [Act.put, List.setIfInBounds_toArray, List.set_cons_zero, List.set_cons_succ]
    refine take_drop (i := 3) (v := ?v3_1) rfl (by kernel_rfl) (by kernel_rfl) (by kernel_rfl) (fun _ _ _ h => h) (Or.inl ⟨by rfl, ?h3_1⟩) hHeld ?r3_1
    case h3_1 => (intro wS hSw; go_simp; all_goals (with_reducible rfl))
    simp only [Act.put, List.setIfInBounds_toArray, List.set_cons_zero, List.set_cons_succ]
    refine take_drop (i := 4) (v := ?v4_1) rfl (by kernel_rfl) (by kernel_rfl) (by kernel_rfl) (fun _ _ _ h => h) (Or.inl ⟨by rfl, ?h4_1⟩) hHeld ?r4_1
    case h4_1 => (intro wS hSw; go_simp; all_goals (with_reducible rfl))
    simp only [Act.put, List.setIfInBounds_toArray, List.set_cons_zero, List.set_cons_succ]
    refine take_drop (i := 5) (v := ?v5_1) rfl (by kernel_rfl) (by kernel_rfl) (by kernel_rfl) (fun _ _ _ h => h) (Or.inl ⟨by rfl, ?h5_1⟩) hHeld ?r5_1
    case h5_1 => (intro wS hSw; go_simp; all_goals (with_reducible rfl))
    simp only [Act.put, List.setIfInBounds_toArray, List.set_cons_zero, List.set_cons_succ]
    refine take_drop (i := 6) (v := ?v6_1) rfl (by kernel_rfl) (by kernel_rfl) (by kernel_rfl) (fun _ _ _ h => h) (Or.inl ⟨by rfl, ?h6_1⟩) hHeld ?r6_1
    case h6_1 => (intro wS hSw; go_simp; all_goals (with_reducible rfl))
    simp only [Act.put, List.setIfInBounds_toArray, List.set_cons_zero, List.set_cons_succ]
    refine take_drop (i := 7) (v := ?v7_1) rfl (by kernel_rfl) (by kernel_rfl) (by kernel_rfl) (fun _ _ _ h => h) (Or.inl ⟨by rfl, ?h7_1⟩) hHeld ?r7_1
    case h7_1 => (intro wS hSw; go_simp; all_goals (with_reducible rfl))
    simp only [Act.put, List.setIfInBounds_toArray, List.set_cons_zero, List.set_cons_succ]
    refine take_drop (i := 8) (v := ?v8_1) rfl (by kernel_rfl) (by kernel_rfl) (by kernel_rfl) (fun _ _ _ h => h) (Or.inl ⟨by rfl, ?h8_1⟩) hHeld ?r8_1
    case h8_1 => (intro wS hSw; go_simp; all_goals (with_reducible rfl))
    simp only [Act.put, List.setIfInBounds_toArray, List.set_cons_zero, List.set_cons_succ]
    obtain ⟨w2, hw2⟩ : ∃ w2, w1.drew = w2 := ⟨_, rfl⟩
    rw [hw2] at hHeld ⊢
    have f2 : Fr No w1 w2 := by rw [← hw2]; exact (Fr.refl No w1).drew
    clear hw2
    refine wpAnyH_ready (rs := [9]) (by kernel_rfl) (by simp) ?_
    refine do_drop (i := 9) rfl (fun K hK => ?_) AllReadyH.nil
    go_simp
    refine (CL1.out w2 f2).mono ?_
    rintro e3 w3 ⟨rfl, f3⟩
    have F3 := Lib.hid (f2.trans f3)
    have hHeld := f3.cell hHeld (fun h => h)
    refine hK.out _ _ hHeld ?_
    clear hK K f2 f3
    try simp only [Act.put, List.setIfInBounds_toArray, List.set_cons_zero, List.set_cons_succ]
    obtain ⟨lm, hlm⟩ : ∃ lm, ln + m = lm := ⟨_, rfl⟩
    have hli : (ln : Int) + (m : Int) = (lm : Int) := by omega
    have hlw : IntKind.i64.wrap (lm : Int) = (lm : Int) := IntWalk.i64_in _ (by omega)
    by_cases hbig : 65536 < lm
    · have dg : decide ((lm : Int) > 65536) = true := decide_eq_true (by omega)
      refine take_drop (i := 10) (v := ?v10_1) rfl (by kernel_rfl) (by kernel_rfl) (by kernel_rfl) (fun _ _ _ h => h) (Or.inl ⟨by rfl, ?h10_1⟩) hHeld ?r10_1
      case h10_1 => (intro wS hSw; go_simp; all_goals (with_reducible rfl))
      simp only [Act.put, List.setIfInBounds_toArray, List.set_cons_zero, List.set_cons_succ]
      refine take_drop (i := 11) (v := ?v11_1) rfl (by kernel_rfl) (by kernel_rfl) (by kernel_rfl) (fun _ _ _ h => h) (Or.inl ⟨by rfl, ?h11_1⟩) hHeld ?r11_1
      case h11_1 => (intro wS hSw; go_simp; all_goals (with_reducible rfl))
      simp only [Act.put, List.setIfInBounds_toArray, List.set_cons_zero, List.set_cons_succ]
      refine take_drop (i := 12) (v := ?v12_1) rfl (by kernel_rfl) (by kernel_rfl) (by kernel_rfl) (fun _ _ _ h => h) (Or.inl ⟨by rfl, ?h12_1⟩) hHeld ?r12_1
      case h12_1 => (intro wS hSw; go_simp; all_goals (with_reducible rfl))
      simp only [Act.put, List.setIfInBounds_toArray, List.set_cons_zero, List.set_cons_succ]
      refine wpAnyH_done (by kernel_rfl) ?_ _
      have HRR : Hid (RbRet B t ob fv l c o d w (.returned (.bool false)) w3) := Lib.hid (.inr ⟨fun L' e' l2 h9 _ _ => by obtain ⟨rfl, rfl⟩ := HUN.out L' e' h9; rw [HLN.out, HM.out, hlm]; exact hbig, rfl, (F1.out.trans F3.out).sub fun _ _ h => h.elim⟩)
      clear hHeld hbig
      go_wp2_with fail
      go_ret
      exact HRR.out
    · have dg : decide ((lm : Int) > 65536) = false := decide_eq_false (by omega)
      refine take_drop (i := 10) (v := ?v10_2) rfl (by kernel_rfl) (by kernel_rfl) (by kernel_rfl) (fun _ _ _ h => h) (Or.inl ⟨by rfl, ?h10_2⟩) hHeld ?r10_2
      case h10_2 => (intro wS hSw; go_simp; all_goals (with_reducible rfl))
      simp only [Act.put, List.setIfInBounds_toArray, List.set_cons_zero, List.set_cons_succ]
      refine take_drop (i := 11) (v := ?v11_3) rfl (by kernel_rfl) (by kernel_rfl) (by kernel_rfl) (fun _ _ _ h => h) (Or.inl ⟨by rfl, ?h11_3⟩) hHeld ?r11_3
      case h11_3 => (intro wS hSw; go_simp; all_goals (with_reducible rfl))
      simp only [Act.put, List.setIfInBounds_toArray, List.set_cons_zero, List.set_cons_succ]
      refine take_drop (i := 12) (v := ?v12_4) rfl (by kernel_rfl) (by kernel_rfl) (by kernel_rfl) (fun _ _ _ h => h) (Or.inl ⟨by rfl, ?h12_4⟩) hHeld ?r12_4
      case h12_4 => (intro wS hSw; go_simp; all_goals (with_reducible rfl))
      simp only [Act.put, List.setIfInBounds_toArray, List.set_cons_zero, List.set_cons_succ]
      refine wpAnyH_done (by kernel_rfl) ?_ _
      have F13 := Lib.hid (F1.out.trans F3.out)
      have HT3 := Lib.hid (HT1.out.keep F3.out)
      have HBK3 := Lib.hid (HBK.out.keep F3.out (fun _ _ h => h))
      have HOLD : Hid (∀ k, F k → w.heap.size ≤ k) := HF
      have HLT3 : Hid (w.heap.size ≤ w3.heap.size) := Lib.hid F13.out.size
      have HTOP : Hid (∀ k, F k → ¬ (k = t ∨ k = ob)) := Lib.hid fun k hk h9 => by
        have q1 := HF.out k hk
        have q2 := HTS.out.hd.lt
        have q3 := HTS.out.op.lt
        omega
      have CE := Lib.hid (bevery_c HBK3.out)
      have o1 := HT3.out.op.cell 1
      have z1 := HT3.out.op.frozen 1
      simp at o1
      clear hHeld c0
      go_wp2_with fail
      refine (show Calls _ _ _ _ _ from CE.out).mono ?_
      rintro e4 w4 ⟨rfl, f4⟩
      have HT4 := Lib.hid (HT3.out.keep f4)
      have o1 := HT4.out.op.cell 1
      have z1 := HT4.out.op.frozen 1
      simp at o1
      obtain ⟨ht5, f5⟩ := HT4.out.setO 1 (e : Int) ⟨o.b, (e : Int), o.n⟩ rfl
      have fo := fr_one w4 ob 1 (.int .i64 (e : Int))
      have HBK5 := Lib.hid ((HBK3.out.keep f4 (fun _ _ h => h)).keep fo (fun k hk h9 => HTOP.out k hk (.inr h9)))
      have F5 := Lib.hid (((F13.out.trans f4).sub (T := fun k => B ≤ k) fun _ _ h => h.elim).then_ f5 fun _ _ h => h)
      obtain ⟨w5, hw5⟩ : ∃ w5, w4.setCell ⟨ob, 1, none⟩ (.int .i64 (e : Int)) = w5 := ⟨_, rfl⟩
      rw [hw5] at ht5 HBK5 F5
      have HT5 := Lib.hid ht5
      have HW5 := Lib.hid hw5
      have CL5 := blen_c HBK5.out
      rw [HM.out] at CL5
      have CL5 := Lib.hid CL5
      have HSZ5 : Hid (w1.heap.size ≤ w5.heap.size) := Lib.hid (by rw [← hw5]; have := fo.size; have := f4.size; have := F3.out.size; omega)
      clear ht5 f5 hw5 f4 fo CE
      go_wp2_with fail
      rw [HW5.out]
      refine (show Calls _ _ _ _ _ from CL5.out).mono ?_
      rintro e6 w6 ⟨rfl, f6⟩
      have HT6 := Lib.hid (HT5.out.keep f6)
      have HBK6 := Lib.hid (HBK5.out.keep f6 (fun _ _ h => h))
      have F6 := Lib.hid (F5.out.then_ f6 fun _ _ h => h.elim)
      have HFLT : Hid (∀ k, F k → k < w1.heap.size) := Lib.hid HBK.out.2.1
      have HSZ6 : Hid (w1.heap.size ≤ w6.heap.size) := Lib.hid (Nat.le_trans HSZ5.out f6.size)
      have HOWN0 : Hid (∀ k, (Value.slice va ln vc).ownBlock = some k → ¬ F k) := Lib.hid fun k hk h9 => by
        have q1 := HF.out k h9
        have q2 := HTS.out.row.1
        rw [HLN.out] at q2
        have := (q2.lt k hk).2
        omega
      have HLOW : Hid (Low 100000 L) := Lib.hid HFIT.out.low
      clear f6 CL5 o1 z1
      go_wp2_with fail
      go_loopw [9, 39] (fun q i wr => ∃ (k : Nat) (l2 : List Ent) (ve' : Value), q = .int .i64 (fillK L k : Int) ∧ i = .int .i64 k ∧ k ≤ m ∧ prsE l2 = L.take k ∧ (∀ x ∈ l2, RtE x) ∧ TS wr B t ob ve' fv (l ++ l2) c ⟨blkK o.b L k, (e : Int), o.n⟩ ∧ (∀ k, ve'.ownBlock = some k → ¬ F k) ∧ Bk wr x F L e ∧ Fr (fun k => B ≤ k) w wr ∧ w1.heap.size ≤ wr.heap.size) (fun _ i _ => m - (intOf i).toNat)
      case atStart => exact ⟨0, [], _, rfl, rfl, Nat.zero_le _, rfl, (fun x h => absurd h (List.not_mem_nil)), by rw [List.append_nil]; exact HT6.out, by rw [HLN.out]; exact HOWN0.out, HBK6.out, F6.out, HSZ6.out⟩
      case round =>
        obtain ⟨k, l2, ve', rfl, rfl, hk, hl2, hrt, hts, hown, hbk, hfr, hsz⟩ := hrel
        have HTR := Lib.hid hts
        have HRT := Lib.hid hrt
        have HL2 := Lib.hid hl2
        have HOWN := Lib.hid hown
        have HBR := Lib.hid hbk
        have HFR := Lib.hid hfr
        have HSZR := Lib.hid hsz
        have hl2n : l2.length = k := by
          have h9 := congrArg List.length hl2
          rw [prsE_len, List.length_take, HM.out] at h9
          omega
        have HL2N := Lib.hid hl2n
        clear hts hrt hl2 hown hbk hfr hsz hl2n
        by_cases hlt : k < m
        · have hkl : k < L.length := by rw [HM.out]; exact hlt
          have CAT := Lib.hid (at_in HBR.out k hkl)
          obtain ⟨p, hp⟩ : ∃ p, L.getD k pr0 = p := ⟨_, rfl⟩
          have hpl := HLOW.out k hkl
          rw [hp] at CAT hpl
          have HP := Lib.hid hp
          clear hp
          go_wp2_with fail
          refine (show Calls _ _ _ _ _ from CAT.out).mono ?_
          rintro e7 w7 ⟨rfl, f7⟩
          obtain ⟨W8, hW8⟩ : ∃ W8, w7.alloc (.cells #[.string p.key, .string p.val] 74) = W8 := ⟨_, rfl⟩
          have f8 : Fr No w7 W8 := by rw [← hW8]; exact (Fr.refl No w7).alloc _
          have a8 : At W8 w7.heap.size 74 #[.string p.key, .string p.val] := by rw [← hW8]; exact At.new _ _ _
          have q8 := a8.cell 0
          simp at q8
          obtain ⟨ua, uc, W9, hcv, huc, _, hin, f9⟩ := conv_strR W8 p.key (by unfold maxLen; omega)
          have CP := Lib.hid (parse_c ua p.key.size uc (bs p.key) W9 (bs_length _) huc (by omega) hin.rd)
          have HF9 := Lib.hid (f7.trans (f8.trans f9))
          have A9 := Lib.hid (a8.keep f9 (fun h => h))
          have HW8 := Lib.hid hW8
          have HB7 : Hid (wr.heap.size ≤ w7.heap.size) := Lib.hid f7.size
          rw [← hW8] at q8 hcv
          unfold prV
          clear f7 f8 a8 hin f9 hW8 CAT
          go_wp2_with fail
          refine (show Calls _ _ _ _ _ from CP.out).mono ?_
          rintro e10 w10 ⟨f10, hpar⟩
          have HF10 := Lib.hid (HF9.out.trans f10)
          have A10 := Lib.hid (A9.out.keep f10 (fun h => h))
          clear f10 CP q8 hcv
          rcases hpar with ⟨hnone, rfl⟩ | ⟨u, sq, sk, hsome, rfl⟩
          · have HRR : Hid (∀ w', Fr No wr w' → RbRet B t ob fv l c o d w (.returned (.bool false)) w') := Lib.hid fun w' f9 => .inr ⟨fun L' e' l2' h9 h8 h7 => by
              obtain ⟨rfl, rfl⟩ := HUN.out L' e' h9
              exfalso
              have hlk : k < l2'.length := by rw [← prsE_len, h8]; exact hkl
              have h6 := prsE_get l2' k hlk
              rw [h8, HP.out] at h6
              exact ent_no hnone (l2'.getD k ent0) (h7 _ (getD_memE l2' k hlk)) h6.symm, rfl, HFR.out.then_ f9 fun _ _ h => h.elim⟩
            have HRR2 := Lib.hid (HRR.out _ (HF10.out.alloc (.cells #[.string ⟨#[]⟩, .int .i64 0, .int .i64 0] 46)))
            clear hnone HRR
            go_wp2_with fail
            go_ret
            exact HRR2.out
          · obtain ⟨hx1, hx2⟩ := ent_of hsome
            obtain ⟨us, hus⟩ : ∃ us, strOf u = us := ⟨_, rfl⟩
            rw [hus] at hx1 hx2 ⊢
            obtain ⟨W11, hW11⟩ : ∃ W11, w10.alloc (.cells #[.string us, .int .i64 sq, .int .i64 sk] 46) = W11 := ⟨_, rfl⟩
            have f11 : Fr No w10 W11 := by rw [← hW11]; exact (Fr.refl No w10).alloc _
            have a11 : At W11 w10.heap.size 46 #[.string us, .int .i64 sq, .int .i64 sk] := by rw [← hW11]; exact At.new _ _ _
            have HX1 := Lib.hid hx1
            have HX2 := Lib.hid hx2
            have HF11 := Lib.hid (HF10.out.trans f11)
            have A11 := Lib.hid a11
            have P11 := Lib.hid (A10.out.keep f11 (fun h => h))
            have T11 := Lib.hid (HTR.out.keep HF11.out)
            have HW11 := Lib.hid hW11
            have HB10 : Hid (w7.heap.size < w10.heap.size) := Lib.hid A10.out.lt
            clear hx1 hx2 f11 a11 hW11 hsome hus
            go_wp2_with fail
            rw [HW11.out]
            have k0 := A11.out.cell 0
            have k1 := A11.out.cell 1
            have k2 := A11.out.cell 2
            have k3 := P11.out.cell 1
            have k4 := P11.out.cell 0
            simp at k0 k1 k2 k3 k4
            have t0 := T11.out.hd.cell 0
            simp at t0
            obtain ⟨va1, vc1, hv1, _⟩ := T11.out.row.form
            obtain ⟨lk, hlk⟩ : ∃ lk, ln + k = lk := ⟨_, rfl⟩
            have hll : (l ++ l2).length = lk := by rw [List.length_append, HLN.out, HL2N.out, hlk]
            have hlkb : lk ≤ 1000000 := by omega
            rw [hll] at hv1
            subst hv1
            have HLL := Lib.hid hll
            clear hll
            refine wp_region_held_drew (S := (fun w' => w'.cell? ⟨w10.heap.size, 0, none⟩ = some (.string us) ∧ w'.cell? ⟨w10.heap.size, 1, none⟩ = some (.int .i64 sq) ∧ w'.cell? ⟨w10.heap.size, 2, none⟩ = some (.int .i64 sk) ∧ w'.cell? ⟨w7.heap.size, 0, none⟩ = some (.string p.key) ∧ w'.cell? ⟨w7.heap.size, 1, none⟩ = some (.string p.val))) (by kernel_rfl) ⟨(Fr.refl No _).drew.cell k0 (fun h => h), (Fr.refl No _).drew.cell k1 (fun h => h), (Fr.refl No _).drew.cell k2 (fun h => h), (Fr.refl No _).drew.cell k4 (fun h => h), (Fr.refl No _).drew.cell k3 (fun h => h)⟩ (fun hHeld => ?_)
            refine take_drop (i := 0) (v := ?v0_5) rfl (by kernel_rfl) (by kernel_rfl) (by kernel_rfl) (fun _ _ _ h => h) (Or.inl ⟨by rfl, ?h0_5⟩) hHeld ?r0_5
            case h0_5 => (intro wS hSw; obtain ⟨s1, s2, s3, s4, s5⟩ := hSw; go_simp; all_goals (with_reducible rfl))
            simp only [Act.put, List.setIfInBounds_toArray, List.set_cons_zero, List.set_cons_succ]
            refine take_drop (i := 1) (v := ?v1_5) rfl (by kernel_rfl) (by kernel_rfl) (by kernel_rfl) (fun _ _ _ h => h) (Or.inl ⟨by rfl, ?h1_5⟩) hHeld ?r1_5
            case h1_5 => (intro wS hSw; obtain ⟨s1, s2, s3, s4, s5⟩ := hSw; go_simp; all_goals (with_reducible rfl))
            simp only [Act.put, List.setIfInBounds_toArray, List.set_cons_zero, List.set_cons_succ]
            refine take_drop (i := 2) (v := ?v2_5) rfl (by kernel_rfl) (by kernel_rfl) (by kernel_rfl) (fun _ _ _ h => h) (Or.inl ⟨by rfl, ?h2_5⟩) hHeld ?r2_5
            case h2_5 => (intro wS hSw; obtain ⟨s1, s2, s3, s4, s5⟩ := hSw; go_simp; all_goals (with_reducible rfl))
            simp only [Act.put, List.setIfInBounds_toArray, List.set_cons_zero, List.set_cons_succ]
            refine take_drop (i := 3) (v := ?v3_5) rfl (by kernel_rfl) (by kernel_rfl) (by kernel_rfl) (fun _ _ _ h => h) (Or.inl ⟨by rfl, ?h3_5⟩) hHeld ?r3_5
            case h3_5 => (intro wS hSw; obtain ⟨s1, s2, s3, s4, s5⟩ := hSw; go_simp; all_goals (with_reducible rfl))
            simp only [Act.put, List.setIfInBounds_toArray, List.set_cons_zero, List.set_cons_succ]
            refine take_drop (i := 5) (v := ?v5_5) rfl (by kernel_rfl) (by kernel_rfl) (by kernel_rfl) (fun _ _ _ h => h) (Or.inl ⟨by rfl, ?h5_5⟩) hHeld ?r5_5
            case h5_5 => (intro wS hSw; obtain ⟨s1, s2, s3, s4, s5⟩ := hSw; go_simp; all_goals (with_reducible rfl))
            simp only [Act.put, List.setIfInBounds_toArray, List.set_cons_zero, List.set_cons_succ]
            refine take_drop (i := 6) (v := ?v6_5) rfl (by kernel_rfl) (by kernel_rfl) (by kernel_rfl) (fun _ _ _ h => h) (Or.inl ⟨by rfl, ?h6_5⟩) hHeld ?r6_5
            case h6_5 => (intro wS hSw; obtain ⟨s1, s2, s3, s4, s5⟩ := hSw; go_simp; all_goals (with_reducible rfl))
            simp only [Act.put, List.setIfInBounds_toArray, List.set_cons_zero, List.set_cons_succ]
            refine take_drop (i := 7) (v := ?v7_5) rfl (by kernel_rfl) (by kernel_rfl) (by kernel_rfl) (fun _ _ _ h => h) (Or.inl ⟨by rfl, ?h7_5⟩) hHeld ?r7_5
            case h7_5 => (intro wS hSw; obtain ⟨s1, s2, s3, s4, s5⟩ := hSw; go_simp; all_goals (with_reducible rfl))
            simp only [Act.put, List.setIfInBounds_toArray, List.set_cons_zero, List.set_cons_succ]
            refine take_drop (i := 8) (v := ?v8_5) rfl (by kernel_rfl) (by kernel_rfl) (by kernel_rfl) (fun _ _ _ h => h) (Or.inl ⟨by rfl, ?h8_5⟩) hHeld ?r8_5
            case h8_5 => (intro wS hSw; obtain ⟨s1, s2, s3, s4, s5⟩ := hSw; go_simp; all_goals (with_reducible rfl))
            simp only [Act.put, List.setIfInBounds_toArray, List.set_cons_zero, List.set_cons_succ]
            obtain ⟨W12, hW12⟩ : ∃ W12, W11.drew = W12 := ⟨_, rfl⟩
            rw [hW12] at hHeld ⊢
            have f12 : Fr No W11 W12 := by rw [← hW12]; exact (Fr.refl No W11).drew
            have t0 := f12.cell t0 (fun h => h)
            have T12 := Lib.hid (T11.out.keep f12)
            have HF12 := Lib.hid (HF11.out.trans f12)
            have P12 := Lib.hid (P11.out.keep f12 (fun h => h))
            have A12 := Lib.hid (A11.out.keep f12 (fun h => h))
            clear hW12 f12 k0 k1 k2 k3 k4
            obtain ⟨v13, W13, hrun, hd13, ht13, f13, fb13, hnw13⟩ := T12.out.push (Nat.le_trans hB (Nat.le_trans HFR.out.size HF12.out.size)) ⟨us, sq, sk, p.val⟩ (by rw [HLL.out]; exact hlkb)
            obtain ⟨va3, vc3, hv3, _⟩ := ht13.row.form
            obtain ⟨lk1, hlk1⟩ : ∃ lk1, lk + 1 = lk1 := ⟨_, rfl⟩
            have hl3 : (l ++ l2 ++ [(⟨us, sq, sk, p.val⟩ : Ent)]).length = lk1 := by rw [List.length_append, HLL.out]; exact hlk1
            rw [hl3] at hv3
            subst hv3
            have HRUN := Lib.hid hrun
            have HOW12 : Hid (∀ q, (Value.slice va1 lk vc1).ownBlock = some q → q < wr.heap.size) := Lib.hid fun q hq => (HTR.out.row.1.lt q hq).2
            have hg : _ ∧ _ ∧ _ ∧ _ ∧ _ := (show W13.cell? ⟨w10.heap.size, 0, none⟩ = some (.string us) ∧ W13.cell? ⟨w10.heap.size, 1, none⟩ = some (.int .i64 sq) ∧ W13.cell? ⟨w10.heap.size, 2, none⟩ = some (.int .i64 sk) ∧ W13.cell? ⟨w7.heap.size, 0, none⟩ = some (.string p.key) ∧ W13.cell? ⟨w7.heap.size, 1, none⟩ = some (.string p.val) from by
              have n1 : ¬ Own1 (.slice va1 lk vc1) w10.heap.size := fun h9 => by have := HOW12.out _ h9; have := HB7.out; have := HB10.out; omega
              have n2 : ¬ Own1 (.slice va1 lk vc1) w7.heap.size := fun h9 => by have := HOW12.out _ h9; have := HB7.out; omega
              exact ⟨f13.cell hHeld.1 n1, f13.cell hHeld.2.1 n1, f13.cell hHeld.2.2.1 n1, f13.cell hHeld.2.2.2.1 n2, f13.cell hHeld.2.2.2.2 n2⟩)
            have HG13 := Lib.hid hg
            have z13 := hd13.frozen 0
            have t13 := hd13.cell 0
            simp at t13
            have fa := (Fr.refl No W12).alloc (.cells #[.string us, .int .i64 sq, .int .i64 sk, .string p.val] 49)
            have m12 := (show _ ∧ _ ∧ _ ∧ _ ∧ _ from ⟨fa.cell hHeld.1 (fun h => h), fa.cell hHeld.2.1 (fun h => h), fa.cell hHeld.2.2.1 (fun h => h), fa.cell hHeld.2.2.2.1 (fun h => h), fa.cell hHeld.2.2.2.2 (fun h => h)⟩)
            have t12 := fa.cell t0 (fun h => h)
            have HT13 := Lib.hid ht13
            have F13b := Lib.hid fb13
            have HNF : Hid (∀ q, (Value.slice va3 lk1 vc3).ownBlock = some q → ¬ F q) := Lib.hid fun q hq h9 => by
              have q1 := HFLT.out q h9
              have q3 := f13.size
              have q4 := HSZR.out
              have q5 := HF12.out.size
              rcases hnw13 q hq with h8 | h8
              · exact HOWN.out q h8 h9
              · omega
            have HBK13 : Hid (Bk (W13.setCell ⟨t, 0, none⟩ (.slice va3 lk1 vc3)) x F L e) := Lib.hid (((HBR.out.keep HF12.out (fun _ _ h => h)).keep f13 (fun q hq h9 => HOWN.out q h9 hq)).keep (fr_one W13 t 0 _) (fun q hq h9 => HTOP.out q hq (.inl h9)))
            clear hrun hd13 ht13 f13 fb13 hg fa hl3
            refine wpAnyH_ready (rs := [4, 9]) (by kernel_rfl) (by simp) ?_
            refine do_drop (i := 4) rfl (fun K hK => ?_) ?_
            · go_simp
              refine hK.out _ _ hHeld ?_
              clear hK K
              try simp only [Act.put, List.setIfInBounds_toArray, List.set_cons_zero, List.set_cons_succ]
              refine wpAnyH_ready (rs := [9]) (by kernel_rfl) (by simp) ?_
              refine do_drop (i := 9) rfl (fun K hK => ?_) AllReadyH.nil
              go_simp
              refine hK.out _ _ m12 ?_
              clear hK K hHeld
              try simp only [Act.put, List.setIfInBounds_toArray, List.set_cons_zero, List.set_cons_succ]
              have hHeld := m12
              have t0 := t12
              refine wpAnyH_ready (rs := [10]) (by kernel_rfl) (by simp) ?_
              refine do_drop (i := 10) rfl (fun K hK => ?_) AllReadyH.nil
              rw [if_pos (by rfl)]
              refine oper_append_run _ _ 22 rfl rfl rfl HRUN.out ?_
              refine hK.out _ _ HG13.out ?_
              clear hK K hHeld
              try simp only [Act.put, List.setIfInBounds_toArray, List.set_cons_zero, List.set_cons_succ]
              have hHeld := HG13.out
              refine take_drop (i := 11) (v := ?v11_6) rfl (by kernel_rfl) (by kernel_rfl) (by kernel_rfl) (fun _ _ _ h => h) (Or.inl ⟨by rfl, ?h11_6⟩) hHeld ?r11_6
              case h11_6 => (intro wS hSw; obtain ⟨s1, s2, s3, s4, s5⟩ := hSw; go_simp; all_goals (with_reducible rfl))
              simp only [Act.put, List.setIfInBounds_toArray, List.set_cons_zero, List.set_cons_succ]
              refine take_drop (i := 12) (v := ?v12_6) rfl (by kernel_rfl) (by kernel_rfl) (by kernel_rfl) (fun _ _ _ h => h) (Or.inl ⟨by rfl, ?h12_6⟩) hHeld ?r12_6
              case h12_6 => (intro wS hSw; obtain ⟨s1, s2, s3, s4, s5⟩ := hSw; go_simp; all_goals (with_reducible rfl))
              simp only [Act.put, List.setIfInBounds_toArray, List.set_cons_zero, List.set_cons_succ]
              clear hHeld
              obtain ⟨W14, hW14⟩ : ∃ W14, W13.setCell ⟨t, 0, none⟩ (.slice va3 lk1 vc3) = W14 := ⟨_, rfl⟩
              have f14 := fr_one W13 t 0 (.slice va3 lk1 vc3)
              rw [hW14] at f14 HT13 F13b HBK13
              have HTT : Hid (w10.heap.size ≠ t ∧ w7.heap.size ≠ t) := Lib.hid (by
                have q1 := HTR.out.hd.lt
                have q2 := HB7.out
                have q3 := HB10.out
                omega)
              have g14 := (show W14.cell? ⟨w10.heap.size, 0, none⟩ = some (.string us) ∧ W14.cell? ⟨w10.heap.size, 1, none⟩ = some (.int .i64 sq) ∧ W14.cell? ⟨w10.heap.size, 2, none⟩ = some (.int .i64 sk) ∧ W14.cell? ⟨w7.heap.size, 0, none⟩ = some (.string p.key) ∧ W14.cell? ⟨w7.heap.size, 1, none⟩ = some (.string p.val) from
                ⟨f14.cell HG13.out.1 HTT.out.1, f14.cell HG13.out.2.1 HTT.out.1, f14.cell HG13.out.2.2.1 HTT.out.1, f14.cell HG13.out.2.2.2.1 HTT.out.2, f14.cell HG13.out.2.2.2.2 HTT.out.2⟩)
              refine wpAnyH_ready (rs := [13]) (by kernel_rfl) (by simp) ?_
              refine do_drop (i := 13) rfl (fun K hK => ?_) AllReadyH.nil
              go_simp
              try rw [hW14]
              refine hK.out _ _ g14 ?_
              clear hK K t0 t12 m12 z13 t13 f14 hW14
              refine wpAnyH_done (by kernel_rfl) ?_ _
              have HF14 := Lib.hid ((HFR.out.then_ HF12.out fun _ _ h => h.elim).then_ F13b.out fun _ _ h => h)
              have o14 := HT13.out.op.cell 0
              have y14 := HT13.out.op.frozen 0
              simp at o14
              obtain ⟨fk, hfk⟩ : ∃ fk, fillK L k = fk := ⟨_, rfl⟩
              obtain ⟨bk, hbk⟩ : ∃ bk, blkK o.b L k = bk := ⟨_, rfl⟩
              have hbd := blkK_le o.b L hob HLOW.out k (by omega)
              rw [hbk, hfk] at hbd
              rw [hbk] at o14 HT13
              obtain ⟨fk1, hfk1⟩ : ∃ fk1, fk + 1 = fk1 := ⟨_, rfl⟩
              have hfi : (fk : Int) + 1 = (fk1 : Int) := by omega
              obtain ⟨nb, hnb⟩ : ∃ nb, max bk (fk1 : Int) = nb := ⟨_, rfl⟩
              have hnbb : nb ≤ 100000000000 ∧ 0 ≤ nb := by omega
              have hfkb : fk1 ≤ 10000000000 := by omega
              have HNB : Hid (blkK o.b L (k + 1) = nb) := Lib.hid (by
                show max (blkK o.b L k) ((fillK L k : Int) + 1) = nb
                rw [hbk, hfk, hfi]
                exact hnb)
              obtain ⟨ht15, f15⟩ := HT13.out.setO 0 nb ⟨nb, (e : Int), o.n⟩ rfl
              have fo15 := fr_one W14 ob 0 (.int .i64 nb)
              obtain ⟨W15, hW15⟩ : ∃ W15, W14.setCell ⟨ob, 0, none⟩ (.int .i64 nb) = W15 := ⟨_, rfl⟩
              rw [hW15] at ht15 f15 fo15
              have HBK15 := Lib.hid (HBK13.out.keep fo15 (fun q hq h9 => HTOP.out q hq (.inr h9)))
              have HNO : Hid (w7.heap.size ≠ ob) := Lib.hid (by
                have q1 := HTR.out.op.lt
                have q2 := HB7.out
                omega)
              have p0 := fo15.cell g14.2.2.2.1 HNO.out
              have p1 := fo15.cell g14.2.2.2.2 HNO.out
              have CF := Lib.hid (filled_c p W15 hpl.1 hpl.2)
              have HT15 := Lib.hid ht15
              have HF15 := Lib.hid (HF14.out.then_ f15 fun _ _ h => h)
              have HW15 := Lib.hid hW15
              have HSZ15 : Hid (w1.heap.size ≤ W15.heap.size) := Lib.hid (Nat.le_trans HSZR.out (by
                have q1 := HF12.out.size
                have q2 := F13b.out.size
                have q3 := f15.size
                omega))
              rw [← hW15] at p0 p1
              rw [hfk]
              have HFK := Lib.hid hfk
              clear ht15 f15 fo15 hW15 g14 hbk hfk
              have hwf : IntKind.i64.wrap (fk1 : Int) = (fk1 : Int) := IntWalk.i64_in _ (by omega)
              clear hfk1 hbd
              unfold prV at CF
              go_wp2_with fail
              rw [HW15.out]
              refine (show Calls _ _ _ _ _ from CF.out).mono ?_
              rintro e16 w16 ⟨rfl, f16⟩
              have HT16 := Lib.hid (HT15.out.keep f16)
              have HBK16 := Lib.hid (HBK15.out.keep f16 (fun _ _ h => h))
              have HF16 := Lib.hid (HF15.out.then_ f16 fun _ _ h => h.elim)
              have HSZ16 : Hid (w1.heap.size ≤ w16.heap.size) := Lib.hid (Nat.le_trans HSZ15.out f16.size)
              have HST : Hid (((fillK L (k + 1) : Nat) : Int) = (fk : Int) + (flN p : Int)) := Lib.hid (by
                show ((fillK L k + flN (L.getD k pr0) : Nat) : Int) = _
                rw [HFK.out, HP.out]
                omega)
              have hfl : flN p ≤ 200000 := by unfold flN; omega
              obtain ⟨fp, hfp⟩ : ∃ fp, flN p = fp := ⟨_, rfl⟩
              rw [hfp] at HST hfl ⊢
              clear f16 CF p0 p1 hfp
              go_wp2_with fail
              go_roundw
              case rel =>
                refine ⟨k + 1, l2 ++ [⟨us, sq, sk, p.val⟩], _, by rw [HST.out], by simp, by omega, ?_, ?_, by rw [HNB.out, ← List.append_assoc]; exact HT16.out, HNF.out, HBK16.out, HF16.out, HSZ16.out⟩
                · rw [prsE_app, HL2.out, take_pr L k (by rw [HM.out]; exact hlt), HP.out]
                  show _ ++ [prE ⟨us, sq, sk, p.val⟩] = _
                  rw [HX2.out]
                · intro y hy
                  rcases List.mem_append.1 hy with hy | hy
                  · exact HRT.out y hy
                  · rw [List.mem_singleton.1 hy]
                    exact HX1.out
              case measure => simp [intOf]; omega
            refine do_drop (i := 9) rfl (fun K hK => ?_) AllReadyH.nil
            go_simp
            refine hK.out _ _ m12 ?_
            clear hK K hHeld
            try simp only [Act.put, List.setIfInBounds_toArray, List.set_cons_zero, List.set_cons_succ]
            have hHeld := m12
            have t0 := t12
            refine wpAnyH_ready (rs := [4]) (by kernel_rfl) (by simp) ?_
            refine do_drop (i := 4) rfl (fun K hK => ?_) AllReadyH.nil
            go_simp
            refine hK.out _ _ hHeld ?_
            clear hK K
            try simp only [Act.put, List.setIfInBounds_toArray, List.set_cons_zero, List.set_cons_succ]
            refine wpAnyH_ready (rs := [10]) (by kernel_rfl) (by simp) ?_
            refine do_drop (i := 10) rfl (fun K hK => ?_) AllReadyH.nil
            rw [if_pos (by rfl)]
            refine oper_append_run _ _ 22 rfl rfl rfl HRUN.out ?_
            refine hK.out _ _ HG13.out ?_
            clear hK K hHeld
            try simp only [Act.put, List.setIfInBounds_toArray, List.set_cons_zero, List.set_cons_succ]
            have hHeld := HG13.out
            refine take_drop (i := 11) (v := ?v11_7) rfl (by kernel_rfl) (by kernel_rfl) (by kernel_rfl) (fun _ _ _ h => h) (Or.inl ⟨by rfl, ?h11_7⟩) hHeld ?r11_7
            case h11_7 => (intro wS hSw; obtain ⟨s1, s2, s3, s4, s5⟩ := hSw; go_simp; all_goals (with_reducible rfl))
            simp only [Act.put, List.setIfInBounds_toArray, List.set_cons_zero, List.set_cons_succ]
            refine take_drop (i := 12) (v := ?v12_7) rfl (by kernel_rfl) (by kernel_rfl) (by kernel_rfl) (fun _ _ _ h => h) (Or.inl ⟨by rfl, ?h12_7⟩) hHeld ?r12_7
            case h12_7 => (intro wS hSw; obtain ⟨s1, s2, s3, s4, s5⟩ := hSw; go_simp; all_goals (with_reducible rfl))
            simp only [Act.put, List.setIfInBounds_toArray, List.set_cons_zero, List.set_cons_succ]
            clear hHeld
            obtain ⟨W14, hW14⟩ : ∃ W14, W13.setCell ⟨t, 0, none⟩ (.slice va3 lk1 vc3) = W14 := ⟨_, rfl⟩
            have f14 := fr_one W13 t 0 (.slice va3 lk1 vc3)
            rw [hW14] at f14 HT13 F13b HBK13
            have HTT : Hid (w10.heap.size ≠ t ∧ w7.heap.size ≠ t) := Lib.hid (by
              have q1 := HTR.out.hd.lt
              have q2 := HB7.out
              have q3 := HB10.out
              omega)
            have g14 := (show W14.cell? ⟨w10.heap.size, 0, none⟩ = some (.string us) ∧ W14.cell? ⟨w10.heap.size, 1, none⟩ = some (.int .i64 sq) ∧ W14.cell? ⟨w10.heap.size, 2, none⟩ = some (.int .i64 sk) ∧ W14.cell? ⟨w7.heap.size, 0, none⟩ = some (.string p.key) ∧ W14.cell? ⟨w7.heap.size, 1, none⟩ = some (.string p.val) from
              ⟨f14.cell HG13.out.1 HTT.out.1, f14.cell HG13.out.2.1 HTT.out.1, f14.cell HG13.out.2.2.1 HTT.out.1, f14.cell HG13.out.2.2.2.1 HTT.out.2, f14.cell HG13.out.2.2.2.2 HTT.out.2⟩)
            refine wpAnyH_ready (rs := [13]) (by kernel_rfl) (by simp) ?_
            refine do_drop (i := 13) rfl (fun K hK => ?_) AllReadyH.nil
            go_simp
            try rw [hW14]
            refine hK.out _ _ g14 ?_
            clear hK K t0 t12 m12 z13 t13 f14 hW14
            refine wpAnyH_done (by kernel_rfl) ?_ _
            have HF14 := Lib.hid ((HFR.out.then_ HF12.out fun _ _ h => h.elim).then_ F13b.out fun _ _ h => h)
            have o14 := HT13.out.op.cell 0
            have y14 := HT13.out.op.frozen 0
            simp at o14
            obtain ⟨fk, hfk⟩ : ∃ fk, fillK L k = fk := ⟨_, rfl⟩
            obtain ⟨bk, hbk⟩ : ∃ bk, blkK o.b L k = bk := ⟨_, rfl⟩
            have hbd := blkK_le o.b L hob HLOW.out k (by omega)
            rw [hbk, hfk] at hbd
            rw [hbk] at o14 HT13
            obtain ⟨fk1, hfk1⟩ : ∃ fk1, fk + 1 = fk1 := ⟨_, rfl⟩
            have hfi : (fk : Int) + 1 = (fk1 : Int) := by omega
            obtain ⟨nb, hnb⟩ : ∃ nb, max bk (fk1 : Int) = nb := ⟨_, rfl⟩
            have hnbb : nb ≤ 100000000000 ∧ 0 ≤ nb := by omega
            have hfkb : fk1 ≤ 10000000000 := by omega
            have HNB : Hid (blkK o.b L (k + 1) = nb) := Lib.hid (by
              show max (blkK o.b L k) ((fillK L k : Int) + 1) = nb
              rw [hbk, hfk, hfi]
              exact hnb)
            obtain ⟨ht15, f15⟩ := HT13.out.setO 0 nb ⟨nb, (e : Int), o.n⟩ rfl
            have fo15 := fr_one W14 ob 0 (.int .i64 nb)
            obtain ⟨W15, hW15⟩ : ∃ W15, W14.setCell ⟨ob, 0, none⟩ (.int .i64 nb) = W15 := ⟨_, rfl⟩
            rw [hW15] at ht15 f15 fo15
            have HBK15 := Lib.hid (HBK13.out.keep fo15 (fun q hq h9 => HTOP.out q hq (.inr h9)))
            have HNO : Hid (w7.heap.size ≠ ob) := Lib.hid (by
              have q1 := HTR.out.op.lt
              have q2 := HB7.out
              omega)
            have p0 := fo15.cell g14.2.2.2.1 HNO.out
            have p1 := fo15.cell g14.2.2.2.2 HNO.out
            have CF := Lib.hid (filled_c p W15 hpl.1 hpl.2)
            have HT15 := Lib.hid ht15
            have HF15 := Lib.hid (HF14.out.then_ f15 fun _ _ h => h)
            have HW15 := Lib.hid hW15
            have HSZ15 : Hid (w1.heap.size ≤ W15.heap.size) := Lib.hid (Nat.le_trans HSZR.out (by
              have q1 := HF12.out.size
              have q2 := F13b.out.size
              have q3 := f15.size
              omega))
            rw [← hW15] at p0 p1
            rw [hfk]
            have HFK := Lib.hid hfk
            clear ht15 f15 fo15 hW15 g14 hbk hfk
            have hwf : IntKind.i64.wrap (fk1 : Int) = (fk1 : Int) := IntWalk.i64_in _ (by omega)
            clear hfk1 hbd
            unfold prV at CF
            go_wp2_with fail
            rw [HW15.out]
            refine (show Calls _ _ _ _ _ from CF.out).mono ?_
            rintro e16 w16 ⟨rfl, f16⟩
            have HT16 := Lib.hid (HT15.out.keep f16)
            have HBK16 := Lib.hid (HBK15.out.keep f16 (fun _ _ h => h))
            have HF16 := Lib.hid (HF15.out.then_ f16 fun _ _ h => h.elim)
            have HSZ16 : Hid (w1.heap.size ≤ w16.heap.size) := Lib.hid (Nat.le_trans HSZ15.out f16.size)
            have HST : Hid (((fillK L (k + 1) : Nat) : Int) = (fk : Int) + (flN p : Int)) := Lib.hid (by
              show ((fillK L k + flN (L.getD k pr0) : Nat) : Int) = _
              rw [HFK.out, HP.out]
              omega)
            have hfl : flN p ≤ 200000 := by unfold flN; omega
            obtain ⟨fp, hfp⟩ : ∃ fp, flN p = fp := ⟨_, rfl⟩
            rw [hfp] at HST hfl ⊢
            clear f16 CF p0 p1 hfp
            go_wp2_with fail
            go_roundw
            case rel =>
              refine ⟨k + 1, l2 ++ [⟨us, sq, sk, p.val⟩], _, by rw [HST.out], by simp, by omega, ?_, ?_, by rw [HNB.out, ← List.append_assoc]; exact HT16.out, HNF.out, HBK16.out, HF16.out, HSZ16.out⟩
              · rw [prsE_app, HL2.out, take_pr L k (by rw [HM.out]; exact hlt), HP.out]
                show _ ++ [prE ⟨us, sq, sk, p.val⟩] = _
                rw [HX2.out]
              · intro y hy
                rcases List.mem_append.1 hy with hy | hy
                · exact HRT.out y hy
                · rw [List.mem_singleton.1 hy]
                  exact HX1.out
            case measure => simp [intOf]; omega
        · have hkm : k = m := by omega
          have HRR : Hid (RbRet B t ob fv l c o d w (.returned (.bool true)) wr) := Lib.hid (.inl ⟨L, e, l2, HBLK.out, by rw [HL2.out, hkm, ← HM.out, List.take_length], HRT.out, by rw [HLN.out, HM.out, hlm]; omega, rfl, ⟨ve', by rw [HM.out, ← hkm]; exact HTR.out⟩, HFR.out⟩)
          go_wp2_with fail
          go_ret
          exact HRR.out
  · have HNO : Hid (∀ w', Fr (fun k => B ≤ k) w w' → RbRet B t ob fv l c o d w (.returned (.bool false)) w') := Lib.hid fun w' f => .inr ⟨fun L e l2 h2 _ _ => absurd h2.2.2.2 (hno L e h2.1 h2.2.1 h2.2.2.1), rfl, f⟩
    have F1 := Lib.hid f1
    have c0 := (HTS.out.keep f1).hd.cell 0
    simp at c0
    clear hno f1
    go_wp2_with fail
    refine wp_region_held_drew (S := (fun w' => w'.cell? ⟨t, 0, none⟩ = some (.slice va l.length vc))) (by kernel_rfl) ((Fr.refl No _).drew.cell c0 (fun h => h)) (fun hHeld => ?_)
    refine take_drop (i := 0) (v := ?v0_8) rfl (by kernel_rfl) (by kernel_rfl) (by kernel_rfl) (fun _ _ _ h => h) (Or.inl ⟨by rfl, ?h0_8⟩) hHeld ?r0_8
    case h0_8 => (intro wS hSw; go_simp; all_goals (with_reducible rfl))
    simp only [Act.put, List.setIfInBounds_toArray, List.set_cons_zero, List.set_cons_succ]
    refine take_drop (i := 1) (v := ?v1_8) rfl (by kernel_rfl) (by kernel_rfl) (by kernel_rfl) (fun _ _ _ h => h) (Or.inl ⟨by rfl, ?h1_8⟩) hHeld ?r1_8
    case h1_8 => (intro wS hSw; go_simp; all_goals (with_reducible rfl))
    simp only [Act.put, List.setIfInBounds_toArray, List.set_cons_zero, List.set_cons_succ]
    refine take_drop (i := 2) (v := ?v2_8) rfl (by kernel_rfl) (by kernel_rfl) (by kernel_rfl) (fun _ _ _ h => h) (Or.inl ⟨by rfl, ?h2_8⟩) hHeld ?r2_8
    case h2_8 => (intro wS hSw; go_simp; all_goals (with_reducible rfl))
    simp only [Act.put, List.setIfInBounds_toArray, List.set_cons_zero, List.set_cons_succ]
    refine take_drop (i := 3) (v := undef) rfl (by kernel_rfl) (by kernel_rfl) (by kernel_rfl) (fun _ _ _ h => h) (Or.inr ⟨by rfl, rfl⟩) hHeld ?_
    simp only [Act.put, List.setIfInBounds_toArray, List.set_cons_zero, List.set_cons_succ]
    refine take_drop (i := 4) (v := undef) rfl (by kernel_rfl) (by kernel_rfl) (by kernel_rfl) (fun _ _ _ h => h) (Or.inr ⟨by rfl, rfl⟩) hHeld ?_
    simp only [Act.put, List.setIfInBounds_toArray, List.set_cons_zero, List.set_cons_succ]
    refine take_drop (i := 5) (v := undef) rfl (by kernel_rfl) (by kernel_rfl) (by kernel_rfl) (fun _ _ _ h => h) (Or.inr ⟨by rfl, rfl⟩) hHeld ?_
    simp only [Act.put, List.setIfInBounds_toArray, List.set_cons_zero, List.set_cons_succ]
    refine take_drop (i := 6) (v := undef) rfl (by kernel_rfl) (by kernel_rfl) (by kernel_rfl) (fun _ _ _ h => h) (Or.inr ⟨by rfl, rfl⟩) hHeld ?_
    simp only [Act.put, List.setIfInBounds_toArray, List.set_cons_zero, List.set_cons_succ]
    refine take_drop (i := 7) (v := undef) rfl (by kernel_rfl) (by kernel_rfl) (by kernel_rfl) (fun _ _ _ h => h) (Or.inr ⟨by rfl, rfl⟩) hHeld ?_
    simp only [Act.put, List.setIfInBounds_toArray, List.set_cons_zero, List.set_cons_succ]
    refine take_drop (i := 8) (v := undef) rfl (by kernel_rfl) (by kernel_rfl) (by kernel_rfl) (fun _ _ _ h => h) (Or.inr ⟨by rfl, rfl⟩) hHeld ?_
    simp only [Act.put, List.setIfInBounds_toArray, List.set_cons_zero, List.set_cons_succ]
    refine take_drop (i := 9) (v := undef) rfl (by kernel_rfl) (by kernel_rfl) (by kernel_rfl) (fun _ _ _ h => h) (Or.inr ⟨by rfl, rfl⟩) hHeld ?_
    simp only [Act.put, List.setIfInBounds_toArray, List.set_cons_zero, List.set_cons_succ]
    refine take_drop (i := 10) (v := undef) rfl (by kernel_rfl) (by kernel_rfl) (by kernel_rfl) (fun _ _ _ h => h) (Or.inr ⟨by rfl, rfl⟩) hHeld ?_
    simp only [Act.put, List.setIfInBounds_toArray, List.set_cons_zero, List.set_cons_succ]
    refine take_drop (i := 11) (v := undef) rfl (by kernel_rfl) (by kernel_rfl) (by kernel_rfl) (fun _ _ _ h => h) (Or.inr ⟨by rfl, rfl⟩) hHeld ?_
    simp only [Act.put, List.setIfInBounds_toArray, List.set_cons_zero, List.set_cons_succ]
    refine take_drop (i := 12) (v := ?v12_8) rfl (by kernel_rfl) (by kernel_rfl) (by kernel_rfl) (fun _ _ _ h => h) (Or.inl ⟨by rfl, ?h12_8⟩) hHeld ?r12_8
    case h12_8 => (intro wS hSw; go_simp; all_goals (with_reducible rfl))
    simp only [Act.put, List.setIfInBounds_toArray, List.set_cons_zero, List.set_cons_succ]
    refine wpAnyH_done (by kernel_rfl) ?_ _
    have HRR := Lib.hid (HNO.out w1.drew (F1.out.drew.sub fun _ _ h => h.elim))
    clear hHeld
    go_wp2_with fail
    go_ret
    exact HRR.out
end Go.Proofs.YtlobnbbndkhcbaaGreatDoor
