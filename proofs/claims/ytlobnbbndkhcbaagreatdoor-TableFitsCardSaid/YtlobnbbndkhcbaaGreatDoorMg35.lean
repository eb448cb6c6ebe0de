/-
  Texts of layer 13 and of what it stands on, one behind the other.
-/
import Derived.Test.YtlobnbbndkhcbaaGreatDoorMg34
import Derived.Test.YtlobnbbndkhcbaaGreatDoorMg33

/- Layer 13, the program's own: layData. -/
namespace Go.Proofs.YtlobnbbndkhcbaaGreatDoor
set_option linter.unusedVariables false
open Go.RowKit Go.Shelf
attribute [local go_sem] Oper.semAt_some

/-! ### Bounds. -/
theorem fblk_len {e : Nat} {g : List Pr} (h1 : g.length ≤ 17000) (h2 : Low 50000 g) : (fblk e g).length ≤ 1800000000 := by
  unfold fblk
  have q1 := pairsB_len e g 50000 (by omega) h2 g.length (Nat.le_refl _)
  have q2 : g.length * (27 + 2 * 50000) ≤ 17000 * (27 + 2 * 50000) := Nat.mul_le_mul_right _ h1
  have q3 := startsN_len e g g.length
  have q4 := blockB_len e g
  rw [frameL_length]
  have q5 := sizeL_le (n := (blockB e g).length) (by omega)
  omega
theorem lay_len (e : Nat) (L : List Pr) : ∀ (cs : List (Nat × Nat)), (∀ c ∈ cs, (fblk e (subP L c)).length ≤ 1800000000) → (layG e L cs).1.length ≤ cs.length * 1800000000 := by
  have : ∀ (cs : List (Nat × Nat)) (st : List UInt8 × List Pr), (∀ c ∈ cs, (fblk e (subP L c)).length ≤ 1800000000) → (cs.foldl (layS e L) st).1.length ≤ st.1.length + cs.length * 1800000000 := by
    intro cs
    induction cs with
    | nil => intro st _; simp
    | cons c cs ih =>
      intro st h
      rw [List.foldl_cons]
      have h1 := ih (layS e L st c) fun d hd => h d (List.mem_cons_of_mem _ hd)
      have h2 := h c (List.mem_cons_self ..)
      have h3 : (layS e L st c).1.length = st.1.length + (fblk e (subP L c)).length := by
        show (st.1 ++ _).length = _
        rw [List.length_append]
      rw [List.length_cons]
      omega
  intro cs h
  have := this cs ([], []) h
  unfold layG
  simpa using this
theorem low_mono {m k : Nat} {l : List Pr} (h : Low m l) (hk : m ≤ k) : Low k l := fun i hi => ⟨Nat.le_trans (h i hi).1 hk, Nat.le_trans (h i hi).2 hk⟩
/-- The cuts at places. -/
def clC (C : List (Nat × Nat)) (pre : List (Plc C.length)) : List (Nat × Nat) := pre.map fun z => C.getD z.val c00
theorem clC_len (C : List (Nat × Nat)) (pre : List (Plc C.length)) : (clC C pre).length = pre.length := by unfold clC; rw [List.length_map]
theorem clC_app (C : List (Nat × Nat)) (pre : List (Plc C.length)) (z : Plc C.length) : clC C (pre ++ [z]) = clC C pre ++ [C.getD z.val c00] := by unfold clC; rw [List.map_append]; rfl
theorem getD_c (C : List (Nat × Nat)) (i : Nat) (h : i < C.length) : C.getD i c00 = C[i] := by
  rw [List.getD_eq_getElem?_getD, List.getElem?_eq_getElem h]
  rfl
theorem clC_mem {C : List (Nat × Nat)} {pre : List (Plc C.length)} {c : Nat × Nat} (h : c ∈ clC C pre) : c ∈ C := by
  unfold clC at h
  obtain ⟨z, _, rfl⟩ := List.mem_map.1 h
  rw [getD_c C _ z.2]
  exact List.getElem_mem z.2
theorem clC_up (C : List (Nat × Nat)) : ∀ k, k ≤ C.length → clC C (up C.length k) = C.take k
  | 0, _ => by simp [up, clC]
  | k + 1, h => by
    rw [up_step (show k < C.length by omega), clC_app, clC_up C k (by omega), List.take_add_one, List.getElem?_eq_getElem (show k < C.length by omega), getD_c C k (by omega)]
    rfl
theorem clC_all (C : List (Nat × Nat)) : clC C (up C.length C.length) = C := by rw [clC_up C _ (Nat.le_refl _), List.take_length]

/-! ### Two rows beside each other: bytes, pairs. -/
structure BP (B : Nat) (wr : World) (vo vs : Value) (p : List UInt8) (q : List Pr) : Prop where
  out : Row wr (Own1 vo) vo p
  prs : RowG wr (Own1 vs) 74 2 vs q.length (prsC q)
  newo : ∀ k, vo.ownBlock = some k → B ≤ k
  news : ∀ k, vs.ownBlock = some k → B ≤ k
theorem BP.start (B : Nat) (w : World) : BP B w (.slice none 0 0) (.slice none 0 0) [] [] :=
  ⟨Row.nil _ _, RowG.nil _ _ _ _, fun k h => by simp [Value.ownBlock] at h, fun k h => by simp [Value.ownBlock] at h⟩
theorem BP.keep {B : Nat} {wr w' : World} {T : Nat → Prop} {vo vs : Value} {p : List UInt8} {q : List Pr} (h : BP B wr vo vs p q) (f : Fr T wr w') (hT : ∀ k, T k → k < B) : BP B w' vo vs p q :=
  ⟨h.out.keep f fun k h1 h2 => by have := h.newo k h1; have := hT k h2; omega, h.prs.keep f fun k h1 h2 => by have := h.news k h1; have := hT k h2; omega, h.newo, h.news⟩
theorem BP.own {B D : Nat} {W W' : World} {row : Option Nat} {vo vs : Value} {p : List UInt8} {q : List Pr} (h : BP B W vo vs p q) (hg : W.grownBy W' row) (hr : Turns D W row) : BP B W' vo vs p q :=
  ⟨own_row h.out hg hr, own_rowG h.prs hg hr, h.newo, h.news⟩
theorem BP.apart {B : Nat} {wr : World} {vo vs : Value} {p : List UInt8} {q : List Pr} (h : BP B wr vo vs p q) {k : Nat} (h1 : vo.ownBlock = some k) (h2 : vs.ownBlock = some k) : False := by
  obtain ⟨⟨_, h9⟩, _⟩ := h.out
  obtain ⟨⟨_, h8⟩, _⟩ := h.prs
  rcases h9 with ⟨rfl, _⟩ | ⟨g, cc, cur, rfl, _, hg, _⟩
  · simp [Value.ownBlock] at h1
  · rcases h8 with ⟨rfl, _⟩ | ⟨g', cc', cur', rfl, _, hg', _⟩
    · simp [Value.ownBlock] at h2
    · cases Option.some.inj h1
      cases Option.some.inj h2
      rw [hg] at hg'
      cases hg'
theorem BP.more {B : Nat} {wr : World} {vo vs : Value} {p : List UInt8} {q : List Pr} (h : BP B wr vo vs p q) (hB : B ≤ wr.heap.size) (a : Option Addr) (m c : Nat) (news : List UInt8) (hm : news.length = m) (hr : Rd wr a news) (hb : p.length + m ≤ 140737488355328) :
    ∃ v' w', (Builtin.append_ #[27, 27] 27 #[vo, .slice a m c]).run Tryz.prog wr = .ok v' w' ∧ BP B w' v' vs (p ++ news) q ∧ Fr (Own1 vo) wr w' := by
  obtain ⟨v', w', h1, h2, h3⟩ := h.out.append a m c news hm hr hb
  refine ⟨v', w', h1, ⟨⟨h2.1, fun _ hk => hk⟩, h.prs.keep h3 fun k h4 h5 => h.apart h5 h4, fun k hk => ?_, h.news⟩, h3⟩
  rcases h2.2 k hk with h4 | h4
  · exact h.newo k h4
  · omega
theorem BP.push {B : Nat} {wr : World} {vo vs : Value} {p : List UInt8} {q : List Pr} (h : BP B wr vo vs p q) (hB : B ≤ wr.heap.size) (x : Pr) (hb : q.length < 1000000) :
    ∃ v' w', (Builtin.append_ #[71, 71] 71 #[vs, .slice (some ⟨wr.heap.size, 0, none⟩) 1 1]).run Tryz.prog (wr.alloc (.cells #[.string x.key, .string x.val] 74)) = .ok v' w' ∧ BP B w' vo v' p (q ++ [x]) ∧ Fr (Own1 vs) wr w' := by
  have hb2 : (q.length + 1) * 32 ≤ 1000001 * 32 := Nat.mul_le_mul_right _ (by omega)
  obtain ⟨v', w', h1, h2, h3⟩ := RowG.push rowPr h.prs (fun k hk => (h.prs.1.lt k hk).2) (prC x) rfl (by intro u hu; simp [prC] at hu; rcases hu with rfl | rfl <;> rfl) (by omega) (by omega)
  have e : prsC [x] = prC x := by simp [prsC]
  refine ⟨v', w', h1, ⟨h.out.keep h3 fun k h4 h5 => h.apart h4 h5, ?_, h.newo, fun k hk => ?_⟩, h3⟩
  · rw [List.length_append, prsC_append, e]
    exact ⟨h2.1, fun _ hk => hk⟩
  · rcases h2.2 k hk with h4 | h4
    · exact h.news k h4
    · omega

/-- The boxes of a layData. -/
structure LyS (w : World) (o : Opt) (vd vi : Value) (W : World) : Prop where
  b0 : At W w.heap.size 24 #[.int .i64 o.b, .int .i64 o.e, .int .i64 o.n]
  b1 : At W (w.heap.size + 1) 27 #[vd]
  b2 : At W (w.heap.size + 1 + 1) 71 #[vi]
theorem LyS.keep {w W W' : World} {T : Nat → Prop} {o : Opt} {vd vi : Value} (h : LyS w o vd vi W) (f : Fr T W W') (hT : ∀ k, T k → w.heap.size + 3 ≤ k) : LyS w o vd vi W' :=
  have n : ∀ k, k < w.heap.size + 3 → ¬ T k := fun k hk h => by have := hT k h; omega
  ⟨h.b0.keep f (n _ (by omega)), h.b1.keep f (n _ (by omega)), h.b2.keep f (n _ (by omega))⟩
theorem LyS.own {w W W' : World} {row : Option Nat} {D : Nat} {o : Opt} {vd vi : Value} (h : LyS w o vd vi W) (hg : W.grownBy W' row) (hr : Turns D W row) : LyS w o vd vi W' :=
  ⟨own_at h.b0 hg hr, own_at h.b1 hg hr, own_at h.b2 hg hr⟩
theorem LyS.setD {w W : World} {o : Opt} {vd vi : Value} (h : LyS w o vd vi W) (u : Value) : LyS w o u vi (W.setCell ⟨w.heap.size + 1, 0, none⟩ u) :=
  have f := fr_one W (w.heap.size + 1) 0 u
  have n : ∀ k, k ≠ w.heap.size + 1 → ¬ One (w.heap.size + 1) k := fun k hk h => hk h
  ⟨h.b0.keep f (n _ (by omega)), h.b1.set_ 0 _, h.b2.keep f (n _ (by omega))⟩
theorem LyS.setI {w W : World} {o : Opt} {vd vi : Value} (h : LyS w o vd vi W) (u : Value) : LyS w o vd u (W.setCell ⟨w.heap.size + 1 + 1, 0, none⟩ u) :=
  have f := fr_one W (w.heap.size + 1 + 1) 0 u
  have n : ∀ k, k ≠ w.heap.size + 1 + 1 → ¬ One (w.heap.size + 1 + 1) k := fun k hk h => hk h
  ⟨h.b0.keep f (n _ (by omega)), h.b1.keep f (n _ (by omega)), h.b2.set_ 0 _⟩
/-- WHAT THE ROUNDS OF layData KEEP. -/
def LyI (w w1 : World) (o : Opt) (e : Nat) (L : List Pr) (C : List (Nat × Nat)) (pre : List (Plc C.length)) (W : World) : Prop :=
  ∃ vd vi, LyS w o vd vi W ∧ BP w1.heap.size W vd vi (layG e L (clC C pre)).1 (layG e L (clC C pre)).2 ∧ Fr No w W ∧ w1.heap.size ≤ W.heap.size
theorem own_lyI (w w1 : World) (o : Opt) (e : Nat) (L : List Pr) (C : List (Nat × Nat)) (h : w.heap.size ≤ w1.heap.size) : OwnFrom w1.heap.size (LyI w w1 o e L C) := fun pre W W' row ⟨vd, vi, h1, h2, h3, h4⟩ hg hr =>
  ⟨vd, vi, h1.own hg hr, h2.own hg hr, own_fr h h3 hg hr, Nat.le_trans h4 hg.size⟩
def LyT (w : World) (vd vi : Value) : Nat → Prop := fun k => k = w.heap.size + 1 ∨ k = w.heap.size + 1 + 1 ∨ vd.ownBlock = some k ∨ vi.ownBlock = some k
theorem ly_keeps {w W W' : World} {o : Opt} {B B1 B2 : Nat} {vd vi : Value} {p : List UInt8} {q : List Pr} (h : LyS w o vd vi W) (h2 : BP B W vd vi p q) (hB : w.heap.size + 3 ≤ B) (z1 : w.heap.size + 3 ≤ B1) (z2 : w.heap.size + 3 ≤ B2) (z3 : B1 < B) (z4 : B2 < B) (f : Fr (LyT w vd vi) W W') : KeepsOthers W W' ∧ Ks (fun k => k < w.heap.size ∨ k = B1 ∨ k = B2) W W' := by
  constructor
  · refine ⟨f.size, fun k o hk ho => (f.block k (Array.getElem?_eq_some_iff.1 hk).1 fun ht => ?_).trans hk⟩
    have : o.isCells = true := by
      rcases ht with rfl | rfl | ht | ht
      · exact cells_of_at h.b1 hk
      · exact cells_of_at h.b2 hk
      · exact cells_of_row h2.out.1 ht hk
      · exact cells_of_row h2.prs.1 ht hk
    rw [this] at ho
    cases ho
  · refine ⟨f.size, fun k hk hs => f.block k hk fun ht => ?_⟩
    rcases ht with rfl | rfl | ht | ht
    · omega
    · omega
    · have := h2.newo k ht; omega
    · have := h2.news k ht; omega
theorem lay_results (tmps : Array Value) (w : World) (g g' : Nat) (x y : Value) (hp : tmps.getD 4 undef = .pointer (some ⟨g, 0, none⟩)) (he : tmps.getD 5 undef = .pointer (some ⟨g', 0, none⟩)) (hg : w.cell? ⟨g, 0, none⟩ = some x) (hg' : w.cell? ⟨g', 0, none⟩ = some y) :
    (results Tryz.f36 tmps).run Tryz.prog w = .ok (.tuple #[x, y]) w := by
  have hp' : tmps[4]?.getD undef = .pointer (some ⟨g, 0, none⟩) := by simpa using hp
  have he' : tmps[5]?.getD undef = .pointer (some ⟨g', 0, none⟩) := by simpa using he
  have ha : (loadVar 27 ⟨g, 0, none⟩).run Tryz.prog w = .ok x w := by
    simp [loadVar, isAgg, run_underlying Tryz.underlying27, hg, Result.andThen, go_sem]
  have hb : (loadVar 71 ⟨g', 0, none⟩).run Tryz.prog w = .ok y w := by
    simp [loadVar, isAgg, run_underlying Tryz.underlying71, hg', Result.andThen, go_sem]
  simp [results, Tryz.results36, hp', he', asAddr, ha, hb]
/-- What layData answers: the data blocks' bytes, the index's pairs. -/
def LayRet (D : List UInt8) (I : List Pr) (w : World) (en : Ending) (w' : World) : Prop :=
  ∃ vd vi, en = .returned (.tuple #[vd, vi]) ∧ Row w' (Gr No w w') vd D ∧ RowG w' (Gr No w w') 74 2 vi I.length (prsC I) ∧ Fr No w w'
set_option maxRecDepth 100000 in
set_option maxHeartbeats 4000000 in
theorem lay_c (w : World) (S : Nat → Prop) (a : Option Addr) (n cap : Nat) (L : List Pr) (o : Opt) (ht : Tab w) (ho : OkO o) (hn : L.length = n) (hc : n ≤ cap) (hm : cap ≤ maxLen) (h17 : n ≤ 17000) (hlow : Low 50000 L) (hp : Prs w S a L) (hord : ordP L) (hS : ∀ k, S k → k < w.heap.size) :
    Calls Tryz.prog 36 #[.slice a n cap, optV o] w (LayRet (layG o.e.toNat L (cuts o.b.toNat L)).1 (layG o.e.toNat L (cuts o.b.toNat L)).2 w) := by
  obtain ⟨e, he⟩ : ∃ e : Nat, o.e = (e : Int) := Int.eq_ofNat_of_zero_le (by have := ho.2.2.1; omega)
  obtain ⟨s, hs⟩ : ∃ s : Nat, o.b = (s : Int) := Int.eq_ofNat_of_zero_le (by have := ho.1; omega)
  have he1 : 1 ≤ e ∧ e ≤ 64 := ⟨by have := ho.2.2.1; omega, by have := ho.2.2.2.1; omega⟩
  have hs1 : s ≤ 65536 := by have := ho.2.1; omega
  rw [he, hs, Int.toNat_natCast, Int.toNat_natCast]
  obtain ⟨w0, hw0⟩ : ∃ W, ((w.alloc (.cells #[.int .i64 o.b, .int .i64 o.e, .int .i64 o.n] 24)).alloc (.cells #[.slice none 0 0] 27)).alloc (.cells #[.slice none 0 0] 71) = W := ⟨_, rfl⟩
  have f0 : Fr No w w0 := by rw [← hw0]; exact (((Fr.refl No w).alloc _).alloc _).alloc _
  have s0 : w0.heap.size = w.heap.size + 3 := by rw [← hw0]; simp
  have k0 : LyS w o (.slice none 0 0) (.slice none 0 0) w0 := by
    have q1 := At.new (w.alloc (.cells #[.int .i64 o.b, .int .i64 o.e, .int .i64 o.n] 24)) 27 #[.slice none 0 0]
    have q2 := At.new ((w.alloc (.cells #[.int .i64 o.b, .int .i64 o.e, .int .i64 o.n] 24)).alloc (.cells #[.slice none 0 0] 27)) 71 #[.slice none 0 0]
    rw [World.size_alloc] at q1
    rw [World.size_alloc, World.size_alloc] at q2
    rw [← hw0]
    exact ⟨((At.new _ _ _).keep ((Fr.refl No _).alloc _) (fun h => h)).keep ((Fr.refl No _).alloc _) (fun h => h), q1.keep ((Fr.refl No _).alloc _) (fun h => h), q2⟩
  have HG := Lib.hid (groups_c a cap n (s : Int) w0)
  have HW0 := Lib.hid hw0
  have K0 := Lib.hid k0
  have F0 := Lib.hid f0
  have S0 := Lib.hid s0
  have HP := Lib.hid hp
  have HORD := Lib.hid hord
  have HN := Lib.hid hn
  have HT := Lib.hid ht
  have c0 := k0.b0.cell 0
  simp at c0
  rw [hs] at c0
  rw [← hw0] at c0
  have HIN := Lib.hid (chain_in (cuts s L) 0 L.length (cuts_chain s L))
  have HCL := Lib.hid (show (cuts s L).length ≤ 17000 by
    have := chain_le _ _ _ (cuts_chain s L)
    omega)
  have HTG : Hid (∀ w1, Fr No w0 w1 → ∀ B1 B2, w1.cell? ⟨B1, 0, none⟩ = some (.slice a n cap) → w1.cell? ⟨B2, 0, none⟩ = some (.int .i64 (s : Int)) → TellsG 101 #[.pointer (some ⟨B1, 0, none⟩), .pointer (some ⟨B2, 0, none⟩)] (cuts s L) a cap (fun k => k < w.heap.size ∨ k = B1 ∨ k = B2) w1) := Lib.hid fun w1 f1 B1 B2 b1 b2 => by
    subst hn
    exact tells_groups (S := S) (by omega) hc (low_mono hlow (by omega)) (by omega) b1 b2 ((hp.keep f0 (fun _ _ h => h)).keep f1 (fun _ _ h => h)) (fun k hk => .inl (hS k hk)) (.inr (.inl rfl)) (.inr (.inr rfl))
  generalize cuts s L = C at *
  clear hw0 k0 f0 s0 hp hord ht hn
  refine (callsIn_wide (n := 5)).1 ?_
  refine callsIn_of_wp_marks Tryz.func36 rfl trivial ?_ rfl
  simp only [Tryz.ntmps36, List.size_toArray, List.length_cons, List.length_nil, Nat.reduceAdd, Nat.reduceSub, Array.replicate_succ, Array.replicate_zero, List.push_toArray, List.append_toArray, List.nil_append, List.cons_append]
  refine wpIn_wide.2 ?_
  unfold optV
  rw [he, hs] at HW0
  rw [he, hs]
  rw [he] at c0
  go_wp2_with fail
  rw [HW0.out]
  refine (show Calls _ _ _ _ _ from HG.out).mono ?_
  rintro e9 w1 ⟨B1, B2, rfl, f1, b1, b2, z1, z2, z3, z4⟩
  have HSQ := Lib.hid (HTG.out w1 f1 B1 B2 b1 b2)
  have F1 := Lib.hid (F0.out.trans f1)
  have K1 := Lib.hid (K0.out.keep f1 (fun _ h => h.elim))
  have Z1 : Hid (w.heap.size + 3 ≤ w1.heap.size) := Lib.hid (by have := S0.out; have := f1.size; omega)
  rw [S0.out] at z1 z2
  clear f1 b1 b2 HTG
  go_wp2_with fail
  refine (wpIn_wide (n := 5)).1 ?_
  have hf1 := F1.out
  have hz1 := Z1.out
  refine wpIn_rangeFunc_ownH rfl (by omega) (gf := 101) (lb := #[.pointer (some ⟨B1, 0, none⟩), .pointer (some ⟨B2, 0, none⟩)]) rfl trivial (enters_of Tryz.func101 (by kernel_rfl) rfl) HSQ.out
    (fun h k => h.trans k) (fun W k o' o'' hk h1 h2 _ => Ks.put W k o'' (by omega)) (Below.refl _ _) (fun _ => rfl)
    (LyI w w1 o e L C) (fun _ _ _ => False) (own_lyI w w1 o e L C hf1.size) (fun _ _ _ _ _ hs _ _ => hs)
    ⟨.slice none 0 0, .slice none 0 0, K1.out, BP.start _ _, hf1, Nat.le_refl _⟩
    (fun z a' W => a' = { tmps := #[.slice a n cap, .agg #[.int .i64 (s : Int), .int .i64 (e : Int), .int .i64 o.n], undef, .pointer (some ⟨w.heap.size, 0, none⟩), .pointer (some ⟨w.heap.size + 1, 0, none⟩), .pointer (some ⟨w.heap.size + 1 + 1, 0, none⟩), gV a cap (C.getD z.val c00), undef, undef, .slice a n cap, .pointer (some ⟨w.heap.size, 0, none⟩), .int .i64 (s : Int), seqG B1 B2, gV a cap (C.getD z.val c00), undef, undef, undef, undef, undef, undef, undef, undef, undef, undef, undef, undef, undef, undef, undef, undef, undef, undef, undef, undef, undef, undef, undef, undef, undef], defers := [] })
    (fun z a' => fun _ W W' row h1 hg hr => h1) ?assign ?body ?done ?stop
  case assign =>
    rintro y pre z W K h1 hK
    have HK1 := Lib.hid (fun a' ee => hK a' W (KeepsFrom.refl _ _) (Ks.of_fr (Fr.refl No W) (fun _ _ h => h)) h1 ee)
    clear hK h1
    gi_wp2
    exact HK1.out _ rfl
  case body =>
    rintro y pre z a2 W hy hl ⟨vd, vi, h1, h2, h3, h4⟩ rfl hpre
    obtain ⟨c, hcz⟩ : ∃ c, C.getD z.val c00 = c := ⟨_, rfl⟩
    have hcC : c ∈ C := by rw [← hcz, getD_c C _ z.2]; exact List.getElem_mem z.2
    obtain ⟨i1, i2, i3⟩ := HIN.out c hcC
    have hpx : clC C (pre ++ [z]) = clC C pre ++ [c] := by rw [clC_app, hcz]
    have hlap := layG_app e L (clC C pre) c
    have hll : (layG e L (clC C pre)).2.length < 17000 := by rw [layG_len, clC_len]; have := HCL.out; omega
    have hdl : (layG e L (clC C pre)).1.length ≤ 17000 * 1800000000 := by
      refine Nat.le_trans (lay_len e L _ fun d hd => ?_) (Nat.mul_le_mul_right _ (by rw [clC_len]; have := HCL.out; omega))
      obtain ⟨_, _, q3⟩ := HIN.out d (clC_mem hd)
      exact fblk_len (by rw [subP_len L d q3]; have := HN.out; omega) (subP_low hlow d q3)
    have HPX : Hid (∀ W', (∃ vd vi, LyS w o vd vi W' ∧ BP w1.heap.size W' vd vi ((layG e L (clC C pre)).1 ++ fblk e (subP L c)) ((layG e L (clC C pre)).2 ++ [idxP (L.getD (c.2 - 1) pr0).key (layG e L (clC C pre)).1.length (fblk e (subP L c)).length]) ∧ Fr No w W' ∧ w1.heap.size ≤ W'.heap.size) → LyI w w1 o e L C (pre ++ [z]) W') := Lib.hid fun W' h => by
      unfold LyI
      rw [hpx, hlap]
      exact h
    generalize (layG e L (clC C pre)).1 = D at *
    generalize (layG e L (clC C pre)).2 = I at *
    rw [hcz]
    have hpw : Prs w (fun k => S k) (cutN 2 a c.1 cap) (subP L c) := HP.out.cut c cap i3 (by rw [HN.out]; exact hc)
    have hgl := subP_len L c i3
    have hLn := HN.out
    have HPG := Lib.hid hpw
    obtain ⟨gn, hgn⟩ : ∃ gn, c.2 - c.1 = gn := ⟨_, rfl⟩
    obtain ⟨gc, hgc⟩ : ∃ gc, cap - c.1 = gc := ⟨_, rfl⟩
    rw [hgn] at hgl
    obtain ⟨p, hpg⟩ : ∃ p, p + 1 = gn := ⟨gn - 1, by omega⟩
    have hcell := hpw (by omega)
    have HFR := Lib.hid (fun (w' : World) (ht : Tab w') (f : Fr No w w') => frameOf_c w' (fun k => S k) (cutN 2 a c.1 cap) gn gc (subP L c) e ht hgl (by omega) (by omega) (by omega) (low_mono (subP_low hlow c i3) (by omega)) (hpw.keep f (fun _ _ h => h)) (subP_ord HORD.out c i3) he1.1 he1.2)
    have hfl := fblk_len (e := e) (by rw [hgl]; omega) (subP_low hlow c i3)
    have hlast : (subP L c).getD p pr0 = L.getD (c.2 - 1) pr0 := by rw [subP_get L c p (by omega), show c.1 + p = c.2 - 1 by omega]
    obtain ⟨gb, go, _, hga, hgx⟩ := hcell
    have hgx := hgx p (by omega)
    rw [hlast] at hgx
    obtain ⟨lx, hlx⟩ : ∃ lx, L.getD (c.2 - 1) pr0 = lx := ⟨_, rfl⟩
    rw [hlx] at hgx HPX
    unfold gV
    simp only
    rw [hgn, hgc]
    rw [hga] at HFR ⊢
    generalize fblk e (subP L c) = fb at *
    obtain ⟨fn, hfn⟩ : ∃ fn, fb.length = fn := ⟨_, rfl⟩
    rw [hfn] at HPX hfl
    obtain ⟨dn, hdn⟩ : ∃ dn, D.length = dn := ⟨_, rfl⟩
    rw [hdn] at HPX hdl
    have HFN := Lib.hid hfn
    have HDN := Lib.hid hdn
    have gx0 := h3.cell hgx.c0 (fun h => h)
    have HC := Lib.hid (HFR.out W (HT.out.keep h3 (fun h => h)) h3)
    have H1 := Lib.hid h1
    have H2 := Lib.hid h2
    have H3 := Lib.hid h3
    have H4 := Lib.hid h4
    have HLTI := Lib.hid (fun k hk => (h2.prs.1.lt k hk).2)
    have HLTD := Lib.hid (fun k hk => (h2.out.1.lt k hk).2)
    have c1 := h1.b0.cell 1
    simp at c1
    rw [he] at c1
    have hp1 : (gn : Int) - 1 = (p : Int) := by omega
    have hp0 : (0 : Int) ≤ (p : Int) := by omega
    have hpl : (p : Int) < (gn : Int) := by omega
    have hwr : IntKind.i64.wrap ((gn : Int) - 1) = (p : Int) := by rw [hp1]; exact IntWalk.i64_in _ (by unfold maxLen at hm; omega)
    have hwm : IntKind.i64.wrap (p : Int) = (p : Int) := IntWalk.i64_in _ (by unfold maxLen at hm; omega)
    clear hLn hpw hlast hgx hlx h1 h2 h3 h4 hpx hlap hcz hcC hfn hdn hga hpre
    gi_wp2_with (refine ⟨trivial, ?_⟩; gi_at_call 68; refine (callsIn_wide.2 HC.out).mono ?_; rintro e3 W3 ⟨vf, rfl, r3, f3⟩; obtain ⟨fa, fc, rfl, _, _, fi⟩ := r3.form; have gx3 := f3.cell gx0 (fun h => h); have HF3 := Lib.hid f3; have HFI := Lib.hid fi; clear r3 f3 fi)
    try rw [HFN.out]
    have H13 := Lib.hid (H1.out.keep HF3.out (fun _ h => h.elim))
    have H23 := Lib.hid (H2.out.keep HF3.out (fun _ h => h.elim))
    obtain ⟨va, vc, rfl, _⟩ := H23.out.out.form
    obtain ⟨ia, ic, rfl, _⟩ := H23.out.prs.form
    rw [HDN.out] at H13 H23
    have d5 := H13.out.b2.cell 0
    have d4 := H13.out.b1.cell 0
    simp at d4 d5
    have HI := Lib.hid (fun w' => idx_c lx.key dn fn w' (by omega) (by omega))
    generalize idxP lx.key dn fn = ix at HI HPX
    refine wpIn_region_round (S := (fun w' => w'.cell? ⟨w.heap.size + 1, 0, none⟩ = some (.slice va dn vc))) (by kernel_rfl) (by kernel_rfl) (fun h => by obtain ⟨_, _, h⟩ := h; exact h) d4 (fun hSx => ?_)
    refine take_drop (i := 1) (v := ?v1_w2) rfl (by kernel_rfl) (by kernel_rfl) (by kernel_rfl) (fun _ _ _ h => h) (Or.inl ⟨by rfl, ?h1_w2⟩) hSx ?r1_w2
    case h1_w2 => (intro wS hSw; go_simp; all_goals (first | (with_reducible rfl) | (rw [if_neg (by omega)])))
    simp only [Act.put, List.setIfInBounds_toArray, List.set_cons_zero, List.set_cons_succ]
    refine take_drop (i := 2) (v := ?v2_w3) rfl (by kernel_rfl) (by kernel_rfl) (by kernel_rfl) (fun _ _ _ h => h) (Or.inl ⟨by rfl, ?h2_w3⟩) hSx ?r2_w3
    case h2_w3 => (intro wS hSw; go_simp; all_goals (first | (with_reducible rfl) | (rw [if_neg (by omega)])))
    simp only [Act.put, List.setIfInBounds_toArray, List.set_cons_zero, List.set_cons_succ]
    refine take_drop (i := 3) (v := ?v3_w4) rfl (by kernel_rfl) (by kernel_rfl) (by kernel_rfl) (fun _ _ _ h => h) (Or.inl ⟨by rfl, ?h3_w4⟩) hSx ?r3_w4
    case h3_w4 => (intro wS hSw; go_simp; all_goals (first | (with_reducible rfl) | (rw [if_neg (by omega)])))
    simp only [Act.put, List.setIfInBounds_toArray, List.set_cons_zero, List.set_cons_succ]
    refine take_drop (i := 4) (v := ?v4_w5) rfl (by kernel_rfl) (by kernel_rfl) (by kernel_rfl) (fun _ _ _ h => h) (Or.inl ⟨by rfl, ?h4_w5⟩) hSx ?r4_w5
    case h4_w5 => (intro wS hSw; go_simp; all_goals (first | (with_reducible rfl) | (rw [if_neg (by omega)])))
    simp only [Act.put, List.setIfInBounds_toArray, List.set_cons_zero, List.set_cons_succ]
    refine take_drop (i := 5) (v := ?v5_w6) rfl (by kernel_rfl) (by kernel_rfl) (by kernel_rfl) (fun _ _ _ h => h) (Or.inl ⟨by rfl, ?h5_w6⟩) hSx ?r5_w6
    case h5_w6 => (intro wS hSw; go_simp; all_goals (first | (with_reducible rfl) | (rw [if_neg (by omega)])))
    simp only [Act.put, List.setIfInBounds_toArray, List.set_cons_zero, List.set_cons_succ]
    obtain ⟨W4, hW4⟩ : ∃ W4, W3.drew = W4 := ⟨_, rfl⟩
    rw [hW4] at hSx ⊢
    have f4 : Fr No W3 W4 := by rw [← hW4]; exact (Fr.refl No W3).drew
    have d5 := f4.cell d5 (fun h => h)
    clear hW4 d4
    refine wpAnyH_ready (rs := [0, 6]) (by kernel_rfl) (by simp) ?_
    refine do_drop (i := 0) rfl (fun K hK => ?_) ?_
    · go_simp
      refine hK.out _ _ hSx ?_
      clear hK K
      try simp only [Act.put, List.setIfInBounds_toArray, List.set_cons_zero, List.set_cons_succ]
      refine wpAnyH_ready (rs := [6]) (by kernel_rfl) (by simp) ?_
      refine do_drop (i := 6) rfl (fun K hK => ?_) AllReadyH.nil
      go_simp
      refine (HI.out W4).mono ?_
      rintro e5 W5 ⟨rfl, f5⟩
      have HF5 := Lib.hid (f4.trans f5)
      have H15 := Lib.hid (H13.out.keep HF5.out (fun _ h => h.elim))
      have H25 := Lib.hid (H23.out.keep HF5.out (fun _ h => h.elim))
      have hSx := (show W5.cell? ⟨w.heap.size + 1, 0, none⟩ = some (.slice va dn vc) from f5.cell hSx (fun h => h))
      have d5 := f5.cell d5 (fun h => h)
      have hB5 : w1.heap.size ≤ W5.heap.size := Nat.le_trans H4.out (Nat.le_trans HF3.out.size HF5.out.size)
      have HFI5 := Lib.hid (HFI.out.keep HF5.out (fun _ _ h => h))
      refine hK.out _ _ hSx ?_
      clear hK K f4 f5
      try simp only [Act.put, List.setIfInBounds_toArray, List.set_cons_zero, List.set_cons_succ]
      refine wpAnyH_ready (rs := [7]) (by kernel_rfl) (by simp) ?_
      refine do_drop (i := 7) rfl (fun K hK => ?_) AllReadyH.nil
      obtain ⟨vi6, W6, hrun, hbp, f6⟩ := H25.out.push hB5 ix (by omega)
      obtain ⟨ia6, ic6, hv6, _⟩ := hbp.prs.form
      have HNI : Hid (∀ q, Own1 (.slice ia I.length ic) q → w1.heap.size ≤ q) := Lib.hid H25.out.news
      have H16 := Lib.hid (H15.out.keep f6 (fun q hq => Nat.le_trans hz1 (HNI.out q hq)))
      have H26 := Lib.hid hbp
      have HF6 := Lib.hid f6
      have HFI6 := Lib.hid (HFI5.out.keep f6 (fun k hk h => by
        have h := HLTI.out k h
        rcases hk with hk | hk
        · exact hk
        · omega))
      have HRUN := Lib.hid hrun
      obtain ⟨in6, hin6⟩ : ∃ k, (I ++ [ix]).length = k := ⟨_, rfl⟩
      rw [hin6] at hv6
      subst hv6
      have e4 := H16.out.b1.cell 0
      have z5 := H16.out.b2.frozen 0
      have e5 := H16.out.b2.cell 0
      simp at e4 e5
      have m4 := ((Fr.refl No W5).alloc (.cells #[.string ix.key, .string ix.val] 74)).cell hSx (fun h => h)
      have d5 := ((Fr.refl No W5).alloc (.cells #[.string ix.key, .string ix.val] 74)).cell d5 (fun h => h)
      clear hrun hbp f6 hin6
      unfold prV
      go_simp
      refine hK.out _ _ m4 ?_
      clear hK K hSx
      try simp only [Act.put, List.setIfInBounds_toArray, List.set_cons_zero, List.set_cons_succ]
      have hSx := m4
      refine wpAnyH_ready (rs := [8]) (by kernel_rfl) (by simp) ?_
      refine do_drop (i := 8) rfl (fun K hK => ?_) AllReadyH.nil
      rw [if_pos (by rfl)]
      refine oper_append_run _ _ 71 rfl rfl rfl HRUN.out ?_
      refine hK.out _ _ e4 ?_
      clear hK K hSx
      try simp only [Act.put, List.setIfInBounds_toArray, List.set_cons_zero, List.set_cons_succ]
      have H17 := Lib.hid (H16.out.setI (.slice ia6 in6 ic6))
      have fst := fr_one W6 (w.heap.size + 1 + 1) 0 (.slice ia6 in6 ic6)
      have H27 := Lib.hid (H26.out.keep fst (fun q h => by have h : q = w.heap.size + 1 + 1 := h; omega))
      have HFI7 := Lib.hid (HFI6.out.keep fst (fun k hk h => by
        have h : k = w.heap.size + 1 + 1 := h
        rcases hk with hk | hk
        · exact hk
        · have := H4.out; omega))
      have HF7 : Hid (Fr (LyT w (.slice va dn vc) (.slice ia I.length ic)) W (W6.setCell ⟨w.heap.size + 1 + 1, 0, none⟩ (.slice ia6 in6 ic6))) := Lib.hid ((((HF3.out.trans HF5.out).sub (T := LyT w (.slice va dn vc) (.slice ia I.length ic)) fun _ _ h => h.elim).then_ HF6.out (fun q hq h => .inr (.inr (.inr h)))).then_ fst (fun q hq h => .inr (.inl h)))
      have g4 := H17.out.b1.cell 0
      have g5 := H17.out.b2.cell 0
      simp at g4 g5
      refine wpAnyH_ready (rs := [9]) (by kernel_rfl) (by simp) ?_
      refine do_drop (i := 9) rfl (fun K hK => ?_) AllReadyH.nil
      go_simp
      refine hK.out _ _ g4 ?_
      clear hK K e4 e5 z5 m4 d5 fst
      refine wpAnyH_done (by kernel_rfl) ?_ _
      obtain ⟨W7, hW7⟩ : ∃ W7, W6.setCell ⟨w.heap.size + 1 + 1, 0, none⟩ (.slice ia6 in6 ic6) = W7 := ⟨_, rfl⟩
      rw [hW7] at H17 H27 HFI7 HF7 g4 g5 ⊢
      clear hW7
      obtain ⟨v8, W8, hrun8, hbp8, f8⟩ := H27.out.more (Nat.le_trans H4.out HF7.out.size) fa fn fc fb HFN.out HFI7.out.rd (by rw [HDN.out]; omega)
      obtain ⟨va8, vc8, hv8, _⟩ := hbp8.out.form
      rw [List.length_append, HDN.out, HFN.out] at hv8
      subst hv8
      have hvo8 : ∀ q, Own1 (.slice va dn vc) q → w.heap.size + 3 ≤ q := fun q hq => Nat.le_trans hz1 (H23.out.newo q hq)
      have H18 := Lib.hid (H17.out.keep f8 hvo8)
      have fst9 := fr_one W8 (w.heap.size + 1) 0 (.slice va8 (dn + fn) vc8)
      have H19 := Lib.hid (H18.out.setD (.slice va8 (dn + fn) vc8))
      have H29 := Lib.hid (hbp8.keep fst9 (fun q h => by have h : q = w.heap.size + 1 := h; omega))
      have HF9 := Lib.hid ((HF7.out.then_ f8 (fun q hq h => .inr (.inr (.inl h)))).then_ fst9 (fun q hq h => .inl h))
      have z8 := H18.out.b1.frozen 0
      have e8 := H18.out.b1.cell 0
      simp at e8
      have HRUN8 := Lib.hid hrun8
      have FIN : Hid (KeepsFrom w1.heap.size W (W8.setCell ⟨w.heap.size + 1, 0, none⟩ (.slice va8 (dn + fn) vc8)) ∧ Ks (fun k => k < w.heap.size ∨ k = B1 ∨ k = B2) W (W8.setCell ⟨w.heap.size + 1, 0, none⟩ (.slice va8 (dn + fn) vc8)) ∧ LyI w w1 o e L C (pre ++ [z]) (W8.setCell ⟨w.heap.size + 1, 0, none⟩ (.slice va8 (dn + fn) vc8))) := Lib.hid (by
        have hD2 := H2.out
        have hD1 := H1.out
        rw [HDN.out] at hD2 hD1
        obtain ⟨k1, k2⟩ := ly_keeps hD1 hD2 hz1 (by omega) (by omega) z3 z4 HF9.out
        refine ⟨k1.from _, k2, HPX.out _ ⟨_, _, H19.out, H29.out, H3.out.then_ HF9.out (fun q hq h => ?_), Nat.le_trans H4.out HF9.out.size⟩⟩
        rcases h with h | h | h | h
        · omega
        · omega
        · have := hD2.newo q h; omega
        · have := hD2.news q h; omega)
      clear hrun8 hbp8 f8 fst9 hvo8 g5
      have hdf : (dn : Int) + (fn : Int) = ((dn + fn : Nat) : Int) := by omega
      gi_wp2_with (gi_at_builtin; refine wpListIn_append_run rfl _ _ 27 rfl rfl rfl HRUN8.out ?_)
      exact FIN.out
    refine do_drop (i := 6) rfl (fun K hK => ?_) AllReadyH.nil
    go_simp
    refine (HI.out W4).mono ?_
    rintro e5 W5 ⟨rfl, f5⟩
    have HF5 := Lib.hid (f4.trans f5)
    have H15 := Lib.hid (H13.out.keep HF5.out (fun _ h => h.elim))
    have H25 := Lib.hid (H23.out.keep HF5.out (fun _ h => h.elim))
    have hSx := (show W5.cell? ⟨w.heap.size + 1, 0, none⟩ = some (.slice va dn vc) from f5.cell hSx (fun h => h))
    have d5 := f5.cell d5 (fun h => h)
    have hB5 : w1.heap.size ≤ W5.heap.size := Nat.le_trans H4.out (Nat.le_trans HF3.out.size HF5.out.size)
    have HFI5 := Lib.hid (HFI.out.keep HF5.out (fun _ _ h => h))
    refine hK.out _ _ hSx ?_
    clear hK K f4 f5
    try simp only [Act.put, List.setIfInBounds_toArray, List.set_cons_zero, List.set_cons_succ]
    refine wpAnyH_ready (rs := [0, 7]) (by kernel_rfl) (by simp) ?_
    refine do_drop (i := 0) rfl (fun K hK => ?_) ?_
    · go_simp
      refine hK.out _ _ hSx ?_
      clear hK K
      try simp only [Act.put, List.setIfInBounds_toArray, List.set_cons_zero, List.set_cons_succ]
      refine wpAnyH_ready (rs := [7]) (by kernel_rfl) (by simp) ?_
      refine do_drop (i := 7) rfl (fun K hK => ?_) AllReadyH.nil
      obtain ⟨vi6, W6, hrun, hbp, f6⟩ := H25.out.push hB5 ix (by omega)
      obtain ⟨ia6, ic6, hv6, _⟩ := hbp.prs.form
      have HNI : Hid (∀ q, Own1 (.slice ia I.length ic) q → w1.heap.size ≤ q) := Lib.hid H25.out.news
      have H16 := Lib.hid (H15.out.keep f6 (fun q hq => Nat.le_trans hz1 (HNI.out q hq)))
      have H26 := Lib.hid hbp
      have HF6 := Lib.hid f6
      have HFI6 := Lib.hid (HFI5.out.keep f6 (fun k hk h => by
        have h := HLTI.out k h
        rcases hk with hk | hk
        · exact hk
        · omega))
      have HRUN := Lib.hid hrun
      obtain ⟨in6, hin6⟩ : ∃ k, (I ++ [ix]).length = k := ⟨_, rfl⟩
      rw [hin6] at hv6
      subst hv6
      have e4 := H16.out.b1.cell 0
      have z5 := H16.out.b2.frozen 0
      have e5 := H16.out.b2.cell 0
      simp at e4 e5
      have m4 := ((Fr.refl No W5).alloc (.cells #[.string ix.key, .string ix.val] 74)).cell hSx (fun h => h)
      have d5 := ((Fr.refl No W5).alloc (.cells #[.string ix.key, .string ix.val] 74)).cell d5 (fun h => h)
      clear hrun hbp f6 hin6
      unfold prV
      go_simp
      refine hK.out _ _ m4 ?_
      clear hK K hSx
      try simp only [Act.put, List.setIfInBounds_toArray, List.set_cons_zero, List.set_cons_succ]
      have hSx := m4
      refine wpAnyH_ready (rs := [8]) (by kernel_rfl) (by simp) ?_
      refine do_drop (i := 8) rfl (fun K hK => ?_) AllReadyH.nil
      rw [if_pos (by rfl)]
      refine oper_append_run _ _ 71 rfl rfl rfl HRUN.out ?_
      refine hK.out _ _ e4 ?_
      clear hK K hSx
      try simp only [Act.put, List.setIfInBounds_toArray, List.set_cons_zero, List.set_cons_succ]
      have H17 := Lib.hid (H16.out.setI (.slice ia6 in6 ic6))
      have fst := fr_one W6 (w.heap.size + 1 + 1) 0 (.slice ia6 in6 ic6)
      have H27 := Lib.hid (H26.out.keep fst (fun q h => by have h : q = w.heap.size + 1 + 1 := h; omega))
      have HFI7 := Lib.hid (HFI6.out.keep fst (fun k hk h => by
        have h : k = w.heap.size + 1 + 1 := h
        rcases hk with hk | hk
        · exact hk
        · have := H4.out; omega))
      have HF7 : Hid (Fr (LyT w (.slice va dn vc) (.slice ia I.length ic)) W (W6.setCell ⟨w.heap.size + 1 + 1, 0, none⟩ (.slice ia6 in6 ic6))) := Lib.hid ((((HF3.out.trans HF5.out).sub (T := LyT w (.slice va dn vc) (.slice ia I.length ic)) fun _ _ h => h.elim).then_ HF6.out (fun q hq h => .inr (.inr (.inr h)))).then_ fst (fun q hq h => .inr (.inl h)))
      have g4 := H17.out.b1.cell 0
      have g5 := H17.out.b2.cell 0
      simp at g4 g5
      refine wpAnyH_ready (rs := [9]) (by kernel_rfl) (by simp) ?_
      refine do_drop (i := 9) rfl (fun K hK => ?_) AllReadyH.nil
      go_simp
      refine hK.out _ _ g4 ?_
      clear hK K e4 e5 z5 m4 d5 fst
      refine wpAnyH_done (by kernel_rfl) ?_ _
      obtain ⟨W7, hW7⟩ : ∃ W7, W6.setCell ⟨w.heap.size + 1 + 1, 0, none⟩ (.slice ia6 in6 ic6) = W7 := ⟨_, rfl⟩
      rw [hW7] at H17 H27 HFI7 HF7 g4 g5 ⊢
      clear hW7
      obtain ⟨v8, W8, hrun8, hbp8, f8⟩ := H27.out.more (Nat.le_trans H4.out HF7.out.size) fa fn fc fb HFN.out HFI7.out.rd (by rw [HDN.out]; omega)
      obtain ⟨va8, vc8, hv8, _⟩ := hbp8.out.form
      rw [List.length_append, HDN.out, HFN.out] at hv8
      subst hv8
      have hvo8 : ∀ q, Own1 (.slice va dn vc) q → w.heap.size + 3 ≤ q := fun q hq => Nat.le_trans hz1 (H23.out.newo q hq)
      have H18 := Lib.hid (H17.out.keep f8 hvo8)
      have fst9 := fr_one W8 (w.heap.size + 1) 0 (.slice va8 (dn + fn) vc8)
      have H19 := Lib.hid (H18.out.setD (.slice va8 (dn + fn) vc8))
      have H29 := Lib.hid (hbp8.keep fst9 (fun q h => by have h : q = w.heap.size + 1 := h; omega))
      have HF9 := Lib.hid ((HF7.out.then_ f8 (fun q hq h => .inr (.inr (.inl h)))).then_ fst9 (fun q hq h => .inl h))
      have z8 := H18.out.b1.frozen 0
      have e8 := H18.out.b1.cell 0
      simp at e8
      have HRUN8 := Lib.hid hrun8
      have FIN : Hid (KeepsFrom w1.heap.size W (W8.setCell ⟨w.heap.size + 1, 0, none⟩ (.slice va8 (dn + fn) vc8)) ∧ Ks (fun k => k < w.heap.size ∨ k = B1 ∨ k = B2) W (W8.setCell ⟨w.heap.size + 1, 0, none⟩ (.slice va8 (dn + fn) vc8)) ∧ LyI w w1 o e L C (pre ++ [z]) (W8.setCell ⟨w.heap.size + 1, 0, none⟩ (.slice va8 (dn + fn) vc8))) := Lib.hid (by
        have hD2 := H2.out
        have hD1 := H1.out
        rw [HDN.out] at hD2 hD1
        obtain ⟨k1, k2⟩ := ly_keeps hD1 hD2 hz1 (by omega) (by omega) z3 z4 HF9.out
        refine ⟨k1.from _, k2, HPX.out _ ⟨_, _, H19.out, H29.out, H3.out.then_ HF9.out (fun q hq h => ?_), Nat.le_trans H4.out HF9.out.size⟩⟩
        rcases h with h | h | h | h
        · omega
        · omega
        · have := hD2.newo q h; omega
        · have := hD2.news q h; omega)
      clear hrun8 hbp8 f8 fst9 hvo8 g5
      have hdf : (dn : Int) + (fn : Int) = ((dn + fn : Nat) : Int) := by omega
      gi_wp2_with (gi_at_builtin; refine wpListIn_append_run rfl _ _ 27 rfl rfl rfl HRUN8.out ?_)
      exact FIN.out
    refine do_drop (i := 7) rfl (fun K hK => ?_) AllReadyH.nil
    obtain ⟨vi6, W6, hrun, hbp, f6⟩ := H25.out.push hB5 ix (by omega)
    obtain ⟨ia6, ic6, hv6, _⟩ := hbp.prs.form
    have HNI : Hid (∀ q, Own1 (.slice ia I.length ic) q → w1.heap.size ≤ q) := Lib.hid H25.out.news
    have H16 := Lib.hid (H15.out.keep f6 (fun q hq => Nat.le_trans hz1 (HNI.out q hq)))
    have H26 := Lib.hid hbp
    have HF6 := Lib.hid f6
    have HFI6 := Lib.hid (HFI5.out.keep f6 (fun k hk h => by
      have h := HLTI.out k h
      rcases hk with hk | hk
      · exact hk
      · omega))
    have HRUN := Lib.hid hrun
    obtain ⟨in6, hin6⟩ : ∃ k, (I ++ [ix]).length = k := ⟨_, rfl⟩
    rw [hin6] at hv6
    subst hv6
    have e4 := H16.out.b1.cell 0
    have z5 := H16.out.b2.frozen 0
    have e5 := H16.out.b2.cell 0
    simp at e4 e5
    have m4 := ((Fr.refl No W5).alloc (.cells #[.string ix.key, .string ix.val] 74)).cell hSx (fun h => h)
    have d5 := ((Fr.refl No W5).alloc (.cells #[.string ix.key, .string ix.val] 74)).cell d5 (fun h => h)
    clear hrun hbp f6 hin6
    unfold prV
    go_simp
    refine hK.out _ _ m4 ?_
    clear hK K hSx
    try simp only [Act.put, List.setIfInBounds_toArray, List.set_cons_zero, List.set_cons_succ]
    have hSx := m4
    refine wpAnyH_ready (rs := [0]) (by kernel_rfl) (by simp) ?_
    refine do_drop (i := 0) rfl (fun K hK => ?_) AllReadyH.nil
    go_simp
    refine hK.out _ _ hSx ?_
    clear hK K
    try simp only [Act.put, List.setIfInBounds_toArray, List.set_cons_zero, List.set_cons_succ]
    refine wpAnyH_ready (rs := [8]) (by kernel_rfl) (by simp) ?_
    refine do_drop (i := 8) rfl (fun K hK => ?_) AllReadyH.nil
    rw [if_pos (by rfl)]
    refine oper_append_run _ _ 71 rfl rfl rfl HRUN.out ?_
    refine hK.out _ _ e4 ?_
    clear hK K hSx
    try simp only [Act.put, List.setIfInBounds_toArray, List.set_cons_zero, List.set_cons_succ]
    have H17 := Lib.hid (H16.out.setI (.slice ia6 in6 ic6))
    have fst := fr_one W6 (w.heap.size + 1 + 1) 0 (.slice ia6 in6 ic6)
    have H27 := Lib.hid (H26.out.keep fst (fun q h => by have h : q = w.heap.size + 1 + 1 := h; omega))
    have HFI7 := Lib.hid (HFI6.out.keep fst (fun k hk h => by
      have h : k = w.heap.size + 1 + 1 := h
      rcases hk with hk | hk
      · exact hk
      · have := H4.out; omega))
    have HF7 : Hid (Fr (LyT w (.slice va dn vc) (.slice ia I.length ic)) W (W6.setCell ⟨w.heap.size + 1 + 1, 0, none⟩ (.slice ia6 in6 ic6))) := Lib.hid ((((HF3.out.trans HF5.out).sub (T := LyT w (.slice va dn vc) (.slice ia I.length ic)) fun _ _ h => h.elim).then_ HF6.out (fun q hq h => .inr (.inr (.inr h)))).then_ fst (fun q hq h => .inr (.inl h)))
    have g4 := H17.out.b1.cell 0
    have g5 := H17.out.b2.cell 0
    simp at g4 g5
    refine wpAnyH_ready (rs := [9]) (by kernel_rfl) (by simp) ?_
    refine do_drop (i := 9) rfl (fun K hK => ?_) AllReadyH.nil
    go_simp
    refine hK.out _ _ g4 ?_
    clear hK K e4 e5 z5 m4 d5 fst
    refine wpAnyH_done (by kernel_rfl) ?_ _
    obtain ⟨W7, hW7⟩ : ∃ W7, W6.setCell ⟨w.heap.size + 1 + 1, 0, none⟩ (.slice ia6 in6 ic6) = W7 := ⟨_, rfl⟩
    rw [hW7] at H17 H27 HFI7 HF7 g4 g5 ⊢
    clear hW7
    obtain ⟨v8, W8, hrun8, hbp8, f8⟩ := H27.out.more (Nat.le_trans H4.out HF7.out.size) fa fn fc fb HFN.out HFI7.out.rd (by rw [HDN.out]; omega)
    obtain ⟨va8, vc8, hv8, _⟩ := hbp8.out.form
    rw [List.length_append, HDN.out, HFN.out] at hv8
    subst hv8
    have hvo8 : ∀ q, Own1 (.slice va dn vc) q → w.heap.size + 3 ≤ q := fun q hq => Nat.le_trans hz1 (H23.out.newo q hq)
    have H18 := Lib.hid (H17.out.keep f8 hvo8)
    have fst9 := fr_one W8 (w.heap.size + 1) 0 (.slice va8 (dn + fn) vc8)
    have H19 := Lib.hid (H18.out.setD (.slice va8 (dn + fn) vc8))
    have H29 := Lib.hid (hbp8.keep fst9 (fun q h => by have h : q = w.heap.size + 1 := h; omega))
    have HF9 := Lib.hid ((HF7.out.then_ f8 (fun q hq h => .inr (.inr (.inl h)))).then_ fst9 (fun q hq h => .inl h))
    have z8 := H18.out.b1.frozen 0
    have e8 := H18.out.b1.cell 0
    simp at e8
    have HRUN8 := Lib.hid hrun8
    have FIN : Hid (KeepsFrom w1.heap.size W (W8.setCell ⟨w.heap.size + 1, 0, none⟩ (.slice va8 (dn + fn) vc8)) ∧ Ks (fun k => k < w.heap.size ∨ k = B1 ∨ k = B2) W (W8.setCell ⟨w.heap.size + 1, 0, none⟩ (.slice va8 (dn + fn) vc8)) ∧ LyI w w1 o e L C (pre ++ [z]) (W8.setCell ⟨w.heap.size + 1, 0, none⟩ (.slice va8 (dn + fn) vc8))) := Lib.hid (by
      have hD2 := H2.out
      have hD1 := H1.out
      rw [HDN.out] at hD2 hD1
      obtain ⟨k1, k2⟩ := ly_keeps hD1 hD2 hz1 (by omega) (by omega) z3 z4 HF9.out
      refine ⟨k1.from _, k2, HPX.out _ ⟨_, _, H19.out, H29.out, H3.out.then_ HF9.out (fun q hq h => ?_), Nat.le_trans H4.out HF9.out.size⟩⟩
      rcases h with h | h | h | h
      · omega
      · omega
      · have := hD2.newo q h; omega
      · have := hD2.news q h; omega)
    clear hrun8 hbp8 f8 fst9 hvo8 g5
    have hdf : (dn : Int) + (fn : Int) = ((dn + fn : Nat) : Int) := by omega
    gi_wp2_with (gi_at_builtin; refine wpListIn_append_run rfl _ _ 27 rfl rfl rfl HRUN8.out ?_)
    exact FIN.out
  case done =>
    rintro D ys W hD rfl ⟨vd, vi, h1, h2, h3, h4⟩ hK
    rw [clC_all] at h2
    generalize (layG e L C).1 = DD at *
    generalize (layG e L C).2 = II at *
    obtain ⟨va, vc, rfl, _⟩ := h2.out.form
    obtain ⟨ia, ic, rfl, _⟩ := h2.prs.form
    obtain ⟨dn, hdn⟩ : ∃ dn, DD.length = dn := ⟨_, rfl⟩
    obtain ⟨im, him⟩ : ∃ im, II.length = im := ⟨_, rfl⟩
    have H2 := Lib.hid h2
    rw [hdn, him] at h1 H2
    have HIM := Lib.hid him
    have c1 := h1.b1.cell 0
    have z1' := h1.b1.frozen 0
    have c2 := h1.b2.cell 0
    have z2' := h1.b2.frozen 0
    simp at c1 c2
    have g1 := (h1.setD (.slice va dn vc))
    have g2 := (h1.setI (.slice ia im ic))
    have c2a := g1.b2.cell 0
    have z2a := g1.b2.frozen 0
    have c1b := g2.b1.cell 0
    have z1b := g2.b1.frozen 0
    simp at c2a c1b
    have fa := fr_one W (w.heap.size + 1) 0 (.slice va dn vc)
    have fb := fr_one (W.setCell ⟨w.heap.size + 1, 0, none⟩ (.slice va dn vc)) (w.heap.size + 1 + 1) 0 (.slice ia im ic)
    have FZ := Lib.hid ((((fa.sub (T := fun k => k = w.heap.size + 1 ∨ k = w.heap.size + 1 + 1) fun k _ h => .inl h).then_ fb fun k _ h => .inr h)).drew)
    have HZ := Lib.hid ((g1.setI (.slice ia im ic)).keep (Fr.refl No _).drew (fun _ h => h.elim))
    have HKZ := Lib.hid (((KeepsOthers.setCell W ⟨w.heap.size + 1, 0, none⟩ (.slice va dn vc)).trans (KeepsOthers.setCell _ ⟨w.heap.size + 1 + 1, 0, none⟩ (.slice ia im ic))).trans (KeepsOthers.drew _) |>.same _ _ hK rfl)
    have H3 := Lib.hid h3
    have H4 := Lib.hid h4
    clear h1 h2 h3 h4 g1 g2 fa fb hdn him hK
    go_wp2_with fail
    all_goals go_region
    rename_i hKK
    refine hKK _ _ ?_
    clear hKK
    go_wp2_with fail
    refine ⟨by simp, .inl ⟨_, _, rfl, run_takeDeferred HKZ.out, ?_⟩⟩
    obtain ⟨Z, hZ⟩ : ∃ Z, ((W.setCell ⟨w.heap.size + 1, 0, none⟩ (.slice va dn vc)).setCell ⟨w.heap.size + 1 + 1, 0, none⟩ (.slice ia im ic)).drew = Z := ⟨_, rfl⟩
    have FZ := FZ.out
    have HZ := HZ.out
    have HKZ := HKZ.out
    rw [hZ] at FZ HZ HKZ ⊢
    have hg := grownBy_putObj' Z D (.deferred none)
    have hr : Turns w1.heap.size Z (some D) := fun r e => by cases e; exact ⟨hD, _, HKZ, rfl⟩
    have m := HZ.own hg hr
    have mb := (H2.out.keep FZ (fun q h => by rcases h with h | h <;> omega)).own hg hr
    have mf : Fr No w (Z.putObj D (.deferred none)) := own_fr hf1.size (H3.out.then_ FZ fun k hk h => by rcases h with h | h <;> omega) hg hr
    have mc1 := m.b1.cell 0
    have mc2 := m.b2.cell 0
    simp at mc1 mc2
    refine ⟨_, lay_results _ _ _ _ _ _ rfl rfl mc1 mc2, _, _, rfl, ?_, ?_, mf⟩
    · exact mb.out.sub fun k hk h => .inr ⟨Nat.le_trans hf1.size (mb.newo k h), hk⟩
    · have q := mb.prs
      exact q.sub fun k hk h => .inr ⟨Nat.le_trans hf1.size (mb.news k h), hk⟩
  case stop =>
    rintro D c pre W _ _ h _
    exact h.elim
end Go.Proofs.YtlobnbbndkhcbaaGreatDoor
