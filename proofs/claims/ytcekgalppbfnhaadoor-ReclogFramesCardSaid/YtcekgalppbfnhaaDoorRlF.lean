/-
  Layer 9: Scan.
-/
import Derived.Test.YtcekgalppbfnhaaDoorRlE
namespace Go.Proofs.YtcekgalppbfnhaaDoor
set_option linter.unusedVariables false
open Go.RowKit Go.Shelf
attribute [local go_sem] Oper.semAt_some

theorem results_sl {P : Program} {fn : Func} {p u : Tmp} {t1 t2 e1 : TypeId} (h : fn.results = #[.cell p t1, .cell u t2]) (u1 : P.underlying t1 = some (.slice e1)) (u2 : P.underlying t2 = some (.int .i64)) (tmps : Array Value) (w : World) (a1 a2 : Addr) (v1 v2 : Value)
    (hp : tmps.getD p undef = .pointer (some a1)) (hu : tmps.getD u undef = .pointer (some a2)) (c1 : w.cell? a1 = some v1) (c2 : w.cell? a2 = some v2) : (results fn tmps).run P w = .ok (.tuple #[v1, v2]) w := by
  have hp' : tmps[p]?.getD undef = .pointer (some a1) := by simpa using hp
  have hu' : tmps[u]?.getD undef = .pointer (some a2) := by simpa using hu
  simp [results, h, hp', hu', asAddr, loadVar, isAgg, run_underlying u1, run_underlying u2, c1, c2, Result.andThen, go_sem]
theorem own_rowG {W W' : World} {S : Nat → Prop} {row : Option Nat} {B k : Nat} {e : TypeId} {v : Value} {n : Nat} {cs : List Value} (h : RowG W S e k v n cs) (hg : W.grownBy W' row) (hr : Turns B W row) : RowG W' S e k v n cs := by
  obtain ⟨⟨h1, h2⟩, h3⟩ := h
  refine ⟨⟨h1, ?_⟩, h3⟩
  rcases h2 with h2 | ⟨g, cap, cur, rfl, hb, hgc, rest⟩
  · exact .inl h2
  · exact .inr ⟨g, cap, cur, rfl, hb, (hg.block g (Array.getElem?_eq_some_iff.1 hgc).1 (hr.cells hgc)).trans hgc, rest⟩
theorem own_in {W W' : World} {S : Nat → Prop} {row : Option Nat} {B : Nat} {a : Option Addr} {l : List UInt8} (h : In W S a l) (hg : W.grownBy W' row) (hr : Turns B W row) : In W' S a l := fun hl => by
  obtain ⟨b, o, ha, hb, hc⟩ := h hl
  refine ⟨b, o, ha, hb, fun i hi => ?_⟩
  exact cell_kept (hc i hi) hg fun r e => (hr r e).2
theorem RowG.others {W W' : World} {S : Nat → Prop} {e : TypeId} {k : Nat} {v : Value} {n : Nat} {cs : List Value} (h : RowG W S e k v n cs) (f : Fr (Own1 v) W W') : KeepsOthers W W' := by
  refine ⟨f.size, fun k o hk ho => ?_⟩
  have hlt : k < W.heap.size := (Array.getElem?_eq_some_iff.1 hk).1
  refine (f.block k hlt fun hv => ?_).trans hk
  rcases h.1.2 with ⟨rfl, _⟩ | ⟨g, cap, cur, rfl, _, hg, _⟩
  · have hv : (none : Option Nat) = some k := hv
    cases hv
  · have hv : some g = some k := hv
    cases hv
    rw [hg] at hk
    cases hk
    simp [Obj.isCells] at ho
/-- What the rounds of a Scan keep: its two variables, the list, the records. -/
structure ScI (w w1 : World) (Br : Nat) (pre : List Tx) (v : Value) (W : World) : Prop where
  b0 : At W w.heap.size 25 #[v]
  b1 : At W (w.heap.size + 1) 3 #[.int .i64 ((framesL (pre.map Tx.b)).length : Int)]
  row : RowG W (Own1 v) 22 1 v pre.length (txC pre)
  own : ∀ k, v.ownBlock = some k → Br < k
  recs : ∀ x ∈ pre, In W (fun k => w1.heap.size ≤ k ∧ k < Br) x.a x.b
  fr : Fr No w W
  size : w1.heap.size ≤ W.heap.size
theorem ScI.own_ {w w1 : World} {Br : Nat} {pre : List Tx} {v : Value} {W W' : World} {row : Option Nat} (h : ScI w w1 Br pre v W) (hw : w.heap.size ≤ w1.heap.size) (hg : W.grownBy W' row) (hr : Turns w1.heap.size W row) : ScI w w1 Br pre v W' :=
  ⟨own_at h.b0 hg hr, own_at h.b1 hg hr, own_rowG h.row hg hr, h.own, fun x hx => own_in (h.recs x hx) hg hr, own_fr hw h.fr hg hr, Nat.le_trans h.size hg.size⟩
theorem ScI.keep {w w1 : World} {Br : Nat} {pre : List Tx} {v : Value} {W W' : World} (h : ScI w w1 Br pre v W) (hw : w.heap.size + 3 ≤ w1.heap.size) (hB : w1.heap.size ≤ Br) (f : Fr (One Br) W W') : ScI w w1 Br pre v W' :=
  ⟨h.b0.keep f (fun e => by have e : w.heap.size = Br := e; omega), h.b1.keep f (fun e => by have e : w.heap.size + 1 = Br := e; omega), h.row.keep f (fun k hk e => by
      have := h.own k hk
      have e : k = Br := e
      omega), h.own, fun x hx => (h.recs x hx).keep f fun k hk e => by
      have := hk.2
      have e : k = Br := e
      omega, h.fr.then_ f fun k hk e => by
      have e : k = Br := e
      omega, Nat.le_trans h.size f.size⟩
/-- A round's end. -/
theorem ScI.put {w w1 : World} {Br : Nat} {pre : List Tx} {v v' : Value} {W W2 : World} {x : Tx} (h : ScI w w1 Br pre v W) (hw : w.heap.size + 3 ≤ w1.heap.size) (hB : w1.heap.size ≤ Br) (hBW : Br < W.heap.size) (hin : In W (fun k => w1.heap.size ≤ k ∧ k < Br) x.a x.b)
    (hrow : RowG W2 (Gr (Own1 v) W W2) 22 1 v' (pre.length + 1) (txC pre ++ [txV x])) (hfr : Fr (Own1 v) W W2) :
    ScI w w1 Br (pre ++ [x]) v' ((W2.setCell ⟨w.heap.size, 0, none⟩ v').setCell ⟨w.heap.size + 1, 0, none⟩ (.int .i64 ((framesL ((pre ++ [x]).map Tx.b)).length : Int))) ∧
      Fr (fun k => (k = w.heap.size ∨ k = w.heap.size + 1) ∨ Br < k) W ((W2.setCell ⟨w.heap.size, 0, none⟩ v').setCell ⟨w.heap.size + 1, 0, none⟩ (.int .i64 ((framesL ((pre ++ [x]).map Tx.b)).length : Int))) ∧
      KeepsOthers W ((W2.setCell ⟨w.heap.size, 0, none⟩ v').setCell ⟨w.heap.size + 1, 0, none⟩ (.int .i64 ((framesL ((pre ++ [x]).map Tx.b)).length : Int))) ∧
      W2.cell? ⟨w.heap.size, 0, none⟩ = some v ∧ W2.frozen? ⟨w.heap.size, 0, none⟩ = false ∧
      (∃ u, (W2.setCell ⟨w.heap.size, 0, none⟩ v').cell? ⟨w.heap.size + 1, 0, none⟩ = some u) ∧ (W2.setCell ⟨w.heap.size, 0, none⟩ v').frozen? ⟨w.heap.size + 1, 0, none⟩ = false := by
  have hl0 : ¬ Own1 v w.heap.size := fun e => by have := h.own _ e; omega
  have hl1 : ¬ Own1 v (w.heap.size + 1) := fun e => by have := h.own _ e; omega
  have k0 := h.b0.keep hfr hl0
  have k1 := h.b1.keep hfr hl1
  have fa : Fr (One w.heap.size) W2 (W2.setCell ⟨w.heap.size, 0, none⟩ v') := (Fr.refl (One w.heap.size) W2).setCell (p := ⟨w.heap.size, 0, none⟩) (fun _ => (rfl : w.heap.size = w.heap.size)) _
  have fb : Fr (One (w.heap.size + 1)) (W2.setCell ⟨w.heap.size, 0, none⟩ v') ((W2.setCell ⟨w.heap.size, 0, none⟩ v').setCell ⟨w.heap.size + 1, 0, none⟩ (.int .i64 ((framesL ((pre ++ [x]).map Tx.b)).length : Int))) :=
    (Fr.refl (One (w.heap.size + 1)) _).setCell (p := ⟨w.heap.size + 1, 0, none⟩) (fun _ => (rfl : w.heap.size + 1 = w.heap.size + 1)) _
  have n01 : ¬ One w.heap.size (w.heap.size + 1) := fun e => by have e : w.heap.size + 1 = w.heap.size := e; omega
  have n10 : ¬ One (w.heap.size + 1) w.heap.size := fun e => by have e : w.heap.size = w.heap.size + 1 := e; omega
  have k1a := k1.keep fa n01
  have hv : ∀ k, v'.ownBlock = some k → Br < k := fun k hk => (hrow.2 k hk).elim (h.own k) fun h => by omega
  have hrow' : RowG W2 (Own1 v') 22 1 v' (pre ++ [x]).length (txC (pre ++ [x])) := by
    have e : txC (pre ++ [x]) = txC pre ++ [txV x] := by unfold txC; rw [List.map_append]; rfl
    rw [e, List.length_append]
    exact ⟨hrow.1, fun k hk => hk⟩
  refine ⟨⟨(k0.set_ 0 v').keep fb n10, k1a.set_ 0 _, (hrow'.keep fa ?_).keep fb ?_, hv, ?_, ?_, ?_⟩, ?_, ?_, k0.cell 0, k0.frozen 0, ⟨_, k1a.cell 0⟩, k1a.frozen 0⟩
  · intro k hk e
    have := hv k hk
    have e : k = w.heap.size := e
    omega
  · intro k hk e
    have := hv k hk
    have e : k = w.heap.size + 1 := e
    omega
  · intro y hy
    have hy' : In W (fun k => w1.heap.size ≤ k ∧ k < Br) y.a y.b := by
      rcases List.mem_append.1 hy with hy | hy
      · exact h.recs y hy
      · obtain rfl := List.mem_singleton.1 hy
        exact hin
    refine ((hy'.keep hfr ?_).keep fa ?_).keep fb ?_
    · intro k hk e
      have := h.own k e
      have := hk.2
      omega
    · intro k hk e
      have e : k = w.heap.size := e
      have := hk.1
      omega
    · intro k hk e
      have e : k = w.heap.size + 1 := e
      have := hk.1
      omega
  · refine ((h.fr.then_ hfr ?_).then_ fa ?_).then_ fb ?_
    · intro k hk e
      have := h.own k e
      omega
    · intro k hk e
      have e : k = w.heap.size := e
      omega
    · intro k hk e
      have e : k = w.heap.size + 1 := e
      omega
  · exact Nat.le_trans (Nat.le_trans (Nat.le_trans h.size hfr.size) fa.size) fb.size
  · exact ((hfr.sub (T := fun k => (k = w.heap.size ∨ k = w.heap.size + 1) ∨ Br < k) fun k _ e => .inr (h.own k e)).then_ fa fun k _ e => .inl (.inl e)).then_ fb fun k _ e => .inl (.inr e)
  · exact ((h.row.others hfr).trans (KeepsOthers.setCell _ _ _)).trans (KeepsOthers.setCell _ _ _)
set_option maxRecDepth 100000 in
set_option maxHeartbeats 4000000 in
theorem scan_c (a : Option Addr) (len cap : Nat) (l : List UInt8) (w : World) (hl : l.length = len) (hm : len ≤ 100000) (hc : len ≤ cap) (hr : Rd w a l) (ht : Tab w) :
    Calls Tryd.prog 11 #[.slice a len cap] w (ScanRet l w) := by
  obtain ⟨W2, hW2⟩ : ∃ W, (w.alloc (.cells #[.slice none 0 0] 25)).alloc (.cells #[.int .i64 0] 3) = W := ⟨_, rfl⟩
  obtain ⟨w1, hw1⟩ : ∃ W, W2.alloc (.cells #[.slice a len cap] 22) = W := ⟨_, rfl⟩
  have s2 : W2.heap.size = w.heap.size + 2 := by rw [← hW2]; simp
  have s1 : w1.heap.size = w.heap.size + 3 := by rw [← hw1, World.size_alloc, s2]
  have f2 : Fr No w W2 := by rw [← hW2]; exact ((Fr.refl No w).alloc _).alloc _
  have f1 : Fr No w w1 := by rw [← hw1]; exact f2.alloc _
  have b0 : At w1 w.heap.size 25 #[.slice none 0 0] := by
    rw [← hw1, ← hW2]
    exact ((At.new w _ _).keep ((Fr.refl No _).alloc _) (fun h => h)).keep ((Fr.refl No _).alloc _) (fun h => h)
  have b1 : At w1 (w.heap.size + 1) 3 #[.int .i64 0] := by
    have q := At.new (w.alloc (.cells #[.slice none 0 0] 25)) 3 #[.int .i64 0]
    rw [World.size_alloc] at q
    rw [← hw1, ← hW2]
    exact q.keep ((Fr.refl No _).alloc _) (fun h => h)
  have bX : w1.cell? ⟨w.heap.size + 2, 0, none⟩ = some (.slice a len cap) := by
    have q := At.new W2 22 #[.slice a len cap]
    rw [s2, hw1] at q
    exact q.cell 0
  have HC := Lib.hid (frames_c a len cap W2)
  rw [hw1, s2] at HC
  have HW2 := Lib.hid hW2
  have H0 : Hid (∀ Br, ScI w w1 Br [] (.slice none 0 0) w1) := Lib.hid fun Br => ⟨b0, b1, RowG.nil _ _ _ _, fun k h => absurd h (by simp [Value.ownBlock]), fun x h => absurd h (List.not_mem_nil), f1, Nat.le_refl _⟩
  have HF1 := Lib.hid f1
  have HR := Lib.hid hr
  have HT := Lib.hid ht
  have hG := cell_block (ht 0 (by omega))
  have hG : 0 < w.heap.size := hG
  have HL := Lib.hid hl
  clear hr ht hl b0 b1 f2 f1 hW2 hw1
  refine (callsIn_wide (n := 5)).1 ?_
  refine callsIn_of_wp_marks Tryd.func11 rfl trivial ?_ rfl
  simp only [Tryd.ntmps11, List.size_toArray, List.length_cons, List.length_nil, Nat.reduceAdd, Nat.reduceSub, Array.replicate_succ, Array.replicate_zero, List.push_toArray, List.append_toArray, List.nil_append, List.cons_append]
  refine wpIn_wide.2 ?_
  go_wp2_with fail
  rw [HW2.out]
  refine (show Calls _ _ _ _ _ from HC.out).mono ?_
  rintro e w' ⟨rfl, rfl⟩
  go_wp2_with fail
  refine (wpIn_wide (n := 5)).1 ?_
  refine each_frame (X := w.heap.size + 2) (ad := a) (cap := cap) (b := l) (by rw [HL.out]; exact hm) (by rw [HL.out]; exact hc) (fun k => k = w.heap.size ∨ k = w.heap.size + 1) (by rw [HL.out]; exact bX) (fun h => by omega)
    (((In.of_rd HR.out).keep HF1.out (fun _ _ h => h)).sub fun k _ hk h => by
      have hk : k < w.heap.size := hk
      omega) (HT.out.keep HF1.out (fun h => h)) (fun h => by omega) (fun k hk => by omega) rfl rfl (fun Br pre W => ∃ v, ScI w w1 Br pre v W)
    (fun Br pre W W' row ⟨v, h⟩ hg hr => ⟨v, h.own_ (by omega) hg hr⟩) (fun Br pre Wa Wb ⟨v, h⟩ hB f => ⟨v, h.keep (by omega) hB f⟩) (fun Br _ => ⟨_, H0.out Br⟩)
    (fun en x => { tmps := #[.slice a len cap, undef, .pointer (some ⟨w.heap.size, 0, none⟩), .pointer (some ⟨w.heap.size + 1, 0, none⟩), .int .i64 (en : Int), .slice x.a x.b.length x.c, .slice a len cap, seqF (w.heap.size + 2), .int .i64 (en : Int), .slice x.a x.b.length x.c, undef, undef, undef, undef, undef, undef, undef], defers := [] }) ?assign ?body ?done
  case assign =>
    intro y en x W K hK
    gi_wp2
    exact hK
  case body =>
    rintro y Br pre x W ⟨v, hI⟩ hBr hBW hlen hin
    rw [HL.out] at hlen
    have HIN := hI
    have c0 := hI.b0.cell 0
    obtain ⟨v', W3, hrun, hrow, hfr⟩ := RowG.push rowTx hI.row (fun k hk => (hI.row.1.lt k hk).2) [txV x] rfl (by intro u hu; rw [List.mem_singleton.1 hu]; rfl) (by omega) (by omega)
    obtain ⟨p1, p2, p3, p4, p5, ⟨u, p6⟩, p7⟩ := hI.put (by omega) hBr hBW hin hrow hfr
    obtain ⟨va, vc, rfl, _⟩ := hrow.form
    obtain ⟨en, hen⟩ : ∃ n, (framesL ((pre ++ [x]).map Tx.b)).length = n := ⟨_, rfl⟩
    rw [hen] at p1 p2 p3 ⊢
    have H1 : Hid (∃ v, ScI w w1 Br (pre ++ [x]) v _) := Lib.hid ⟨_, p1⟩
    have H2 := Lib.hid p2
    have H3 := Lib.hid p3
    obtain ⟨xa, xc, xb⟩ := x
    have HRUN := Lib.hid hrun
    clear hrun hrow hfr hI HIN p1 p2 p3 hin hen
    gi_wp2_with (gi_at_builtin; refine wpListIn_append_run rfl _ _ 25 rfl rfl rfl HRUN.out ?_)
    exact ⟨H3.out.from _, H2.out, H1.out⟩
  case done =>
    rename_i hKK
    rintro D Br xs W hD hBr hxs ⟨v, hI⟩ hK
    refine hKK _ _ ?_
    clear hKK
    obtain ⟨va, vc, rfl, _⟩ := hI.row.form
    obtain ⟨xn, hxn⟩ : ∃ n, xs.length = n := ⟨_, rfl⟩
    obtain ⟨en, hen⟩ : ∃ n, (framesL (xs.map Tx.b)).length = n := ⟨_, rfl⟩
    have HI := Lib.hid hI
    rw [hxn] at HI
    have b1 := hI.b1
    rw [hen] at b1
    have b0 := hI.b0
    rw [hxn] at b0
    have c0 := b0.cell 0
    have q0 := b0.frozen 0
    have c1 := b1.cell 0
    have q1 := b1.frozen 0
    have fa : Fr (One w.heap.size) W (W.setCell ⟨w.heap.size, 0, none⟩ (.slice va xn vc)) := (Fr.refl (One w.heap.size) W).setCell (p := ⟨w.heap.size, 0, none⟩) (fun _ => (rfl : w.heap.size = w.heap.size)) _
    have fb : Fr (One (w.heap.size + 1)) W (W.setCell ⟨w.heap.size + 1, 0, none⟩ (.int .i64 (en : Int))) := (Fr.refl (One (w.heap.size + 1)) W).setCell (p := ⟨w.heap.size + 1, 0, none⟩) (fun _ => (rfl : w.heap.size + 1 = w.heap.size + 1)) _
    have n01 : ¬ One w.heap.size (w.heap.size + 1) := fun e => by have e : w.heap.size + 1 = w.heap.size := e; omega
    have n10 : ¬ One (w.heap.size + 1) w.heap.size := fun e => by have e : w.heap.size = w.heap.size + 1 := e; omega
    have c1a := (b1.keep fa n01).cell 0
    have q1a := (b1.keep fa n01).frozen 0
    have c0b := (b0.keep fb n10).cell 0
    have q0b := (b0.keep fb n10).frozen 0
    have fab : Fr (One (w.heap.size + 1)) (W.setCell ⟨w.heap.size, 0, none⟩ (.slice va xn vc)) ((W.setCell ⟨w.heap.size, 0, none⟩ (.slice va xn vc)).setCell ⟨w.heap.size + 1, 0, none⟩ (.int .i64 (en : Int))) := (Fr.refl (One (w.heap.size + 1)) _).setCell (p := ⟨w.heap.size + 1, 0, none⟩) (fun _ => (rfl : w.heap.size + 1 = w.heap.size + 1)) _
    have FZ := Lib.hid ((fa.sub (T := fun k => k = w.heap.size ∨ k = w.heap.size + 1) fun k _ e => .inl e).then_ fab fun k _ e => .inr e).drew
    have B0 := Lib.hid (((b0.set_ 0 (.slice va xn vc)).keep fab n10).keep (Fr.refl No _).drew (fun h => h))
    have B1 := Lib.hid (((b1.keep fa n01).set_ 0 (.int .i64 (en : Int))).keep (Fr.refl No _).drew (fun h => h))
    have HKZ := Lib.hid (((KeepsOthers.setCell W ⟨w.heap.size, 0, none⟩ (.slice va xn vc)).trans (KeepsOthers.setCell _ ⟨w.heap.size + 1, 0, none⟩ (.int .i64 (en : Int)))).trans (KeepsOthers.drew _) |>.same _ _ hK rfl)
    have HEN := Lib.hid hen
    have HXN := Lib.hid hxn
    have HK := Lib.hid hK
    have HXS := Lib.hid hxs
    clear hI b0 b1 fa fb n01 n10 hen hxn hK hxs
    go_wp2_with fail
    all_goals go_region
    rename_i hKK
    refine hKK _ _ ?_
    clear hKK
    go_wp2_with fail
    refine ⟨by simp, .inl ⟨_, _, rfl, run_takeDeferred HKZ.out, ?_⟩⟩
    obtain ⟨Z, hZ⟩ : ∃ Z, ((W.setCell ⟨w.heap.size, 0, none⟩ (.slice va xn vc)).setCell ⟨w.heap.size + 1, 0, none⟩ (.int .i64 (en : Int))).drew = Z := ⟨_, rfl⟩
    have FZ := FZ.out
    have B0 := B0.out
    have B1 := B1.out
    have HKZ := HKZ.out
    rw [hZ] at FZ B0 B1 HKZ ⊢
    have hg := grownBy_putObj' Z D (.deferred none)
    have hr : Turns w1.heap.size Z (some D) := fun r e => by cases e; exact ⟨hD, _, HKZ, rfl⟩
    have hI := HI.out
    have gB : w1.heap.size ≤ W.heap.size := hI.size
    have r1 := own_rowG (hI.row.keep FZ fun k hk e => by have := hI.own k hk; omega) hg hr
    have r2 : Fr No w (Z.putObj D (.deferred none)) := own_fr (by omega) (hI.fr.then_ FZ fun k hk e => by omega) hg hr
    refine ⟨_, results_sl rfl Tryd.underlying25 Tryd.underlying3 _ _ _ _ _ _ rfl rfl ((own_at B0 hg hr).cell 0) ((own_at B1 hg hr).cell 0), _, xs, ?_, ⟨r1, fun k hk => by have := hI.own k hk; omega, fun x hx => ?_⟩, HXS.out, r2⟩
    · rw [← HXS.out, HEN.out]
      rfl
    · refine (own_in ((hI.recs x hx).keep FZ fun k hk e => by have := hk.1; omega) hg hr).sub fun k _ hk => ⟨by have := hk.1; omega, fun e => ?_⟩
      have := hI.own k e
      have := hk.2
      omega
end Go.Proofs.YtcekgalppbfnhaaDoor
