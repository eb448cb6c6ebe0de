/-
  Texts of layer 13 and of what it stands on, one behind the other.
-/
import Derived.Test.YtlobnbbndkhcbaaGreatDoorMg30
import Derived.Test.YtlobnbbndkhcbaaGreatDoorMg28
import Derived.Test.YtlobnbbndkhcbaaGreatDoorMg24
import Derived.Test.YtlobnbbndkhcbaaGreatDoorMg29
import Derived.PlainAid

/- Layer 13, the program's own: slices.Concat of four; layRest. -/
namespace Go.Proofs.YtlobnbbndkhcbaaGreatDoor
set_option linter.unusedVariables false
set_option linter.unusedSimpArgs false
open Go.RowKit

def cum4 (n1 n2 n3 n4 : Nat) : Nat → Nat
  | 0 => 0
  | 1 => n1
  | 2 => n1 + n2
  | 3 => n1 + n2 + n3
  | _ => n1 + n2 + n3 + n4
def front4 (b1 b2 b3 b4 : List UInt8) : Nat → List UInt8
  | 0 => []
  | 1 => [] ++ b1
  | 2 => ([] ++ b1) ++ b2
  | 3 => (([] ++ b1) ++ b2) ++ b3
  | _ => ((([] ++ b1) ++ b2) ++ b3) ++ b4
theorem front4_len (b1 b2 b3 b4 : List UInt8) (k : Nat) : (front4 b1 b2 b3 b4 k).length = cum4 b1.length b2.length b3.length b4.length k := by
  rcases k with _ | _ | _ | _ | k <;> simp [front4, cum4] <;> omega
set_option maxHeartbeats 4000000 in
set_option maxRecDepth 100000 in
theorem concat4_c (S : Nat) (a1 a2 a3 a4 : Option Addr) (n1 n2 n3 n4 c1 c2 c3 c4 : Nat) (b1 b2 b3 b4 : List UInt8) (w : World) (h1 : w.cell? ⟨S, 0, none⟩ = some (.slice a1 n1 c1)) (h2 : w.cell? ⟨S, 1, none⟩ = some (.slice a2 n2 c2)) (h3 : w.cell? ⟨S, 2, none⟩ = some (.slice a3 n3 c3)) (h4 : w.cell? ⟨S, 3, none⟩ = some (.slice a4 n4 c4))
    (r1 : Rd w a1 b1) (r2 : Rd w a2 b2) (r3 : Rd w a3 b3) (r4 : Rd w a4 b4) (e1 : b1.length = n1) (e2 : b2.length = n2) (e3 : b3.length = n3) (e4 : b4.length = n4) (hp : 1 ≤ n1 + n2 + n3 + n4) (hm : n1 + n2 + n3 + n4 ≤ 100000000000000) :
    Calls Tryz.prog 72 #[.slice (some ⟨S, 0, none⟩) 4 4] w (NewRow (b1 ++ (b2 ++ (b3 ++ b4))) w) := by
  have CG := Lib.hid (grow_c (n1 + n2 + n3 + n4) hp hm)
  have HR1 := Lib.hid r1
  have HR2 := Lib.hid r2
  have HR3 := Lib.hid r3
  have HR4 := Lib.hid r4
  have HN1 := Lib.hid e1
  have HN2 := Lib.hid e2
  have HN3 := Lib.hid e3
  have HN4 := Lib.hid e4
  have H1 := Lib.hid h1
  have H2 := Lib.hid h2
  have H3 := Lib.hid h3
  have H4 := Lib.hid h4
  have HFL := Lib.hid (fun k => front4_len b1 b2 b3 b4 k)
  rw [e1, e2, e3, e4] at HFL
  have HEND : Hid (front4 b1 b2 b3 b4 4 = b1 ++ (b2 ++ (b3 ++ b4))) := Lib.hid (by simp [front4])
  clear r1 r2 r3 r4 e1 e2 e3 e4
  go_enter Tryz.func72, Tryz.ntmps72
  go_wp2_with fail
  go_loopw [3, 11] (fun z i wr => ∃ k : Nat, i = .int .i64 k ∧ k ≤ 4 ∧ z = .int .i64 ((cum4 n1 n2 n3 n4 k : Nat) : Int) ∧ wr = w) (fun _ i _ => 4 - (intOf i).toNat)
  case atStart => exact ⟨0, rfl, by omega, rfl, rfl⟩
  case round =>
    obtain ⟨k, rfl, hk, rfl, rfl⟩ := hrel
    rcases (show k = 0 ∨ k = 1 ∨ k = 2 ∨ k = 3 ∨ k = 4 by omega) with rfl | rfl | rfl | rfl | rfl
    all_goals simp only [cum4]
    · go_wp2_with fail
      go_roundw
      case rel => exact ⟨1, by simp, by omega, by simp [cum4]; try omega, by simp⟩
      case measure => simp [intOf]
    · go_wp2_with fail
      go_roundw
      case rel => exact ⟨2, by simp, by omega, by simp [cum4]; try omega, by simp⟩
      case measure => simp [intOf]
    · go_wp2_with fail
      go_roundw
      case rel => exact ⟨3, by simp, by omega, by simp [cum4]; try omega, by simp⟩
      case measure => simp [intOf]
    · go_wp2_with fail
      go_roundw
      case rel => exact ⟨4, by simp, by omega, by simp [cum4]; try omega, by simp⟩
      case measure => simp [intOf]
    · obtain ⟨M, hM⟩ : ∃ M, n1 + n2 + n3 + n4 = M := ⟨_, rfl⟩
      rw [hM] at CG hm ⊢
      clear hp
      have HMM := Lib.hid hM
      clear hM
      go_wp2_with fail
      refine (show Calls _ _ _ _ _ from CG.out _).mono ?_
      rintro e w1 ⟨v, rfl, hrow, hfr⟩
      have HROW := Lib.hid hrow
      have HFR := Lib.hid hfr
      have g1 := hfr.cell h1 (fun h => h)
      have g2 := hfr.cell h2 (fun h => h)
      have g3 := hfr.cell h3 (fun h => h)
      have g4 := hfr.cell h4 (fun h => h)
      clear hrow hfr h1 h2 h3 h4 CG
      go_wp2_with fail
      go_loopw [6, 27] (fun v i wr' => ∃ k : Nat, i = .int .i64 k ∧ k ≤ 4 ∧ Row wr' (Gr No wr wr') v (front4 b1 b2 b3 b4 k) ∧ Fr No wr wr') (fun _ i _ => 4 - (intOf i).toNat)
      case atStart => exact ⟨0, rfl, by omega, HROW.out, HFR.out⟩
      case round =>
        obtain ⟨k, rfl, hk, hrow, hfr⟩ := hrel
        have q1 := hfr.cell H1.out (fun h => h)
        have q2 := hfr.cell H2.out (fun h => h)
        have q3 := hfr.cell H3.out (fun h => h)
        have q4 := hfr.cell H4.out (fun h => h)
        have hfl := HFL.out k
        have hMM := HMM.out
        rcases (show k = 0 ∨ k = 1 ∨ k = 2 ∨ k = 3 ∨ k = 4 by omega) with rfl | rfl | rfl | rfl | rfl
        · obtain ⟨v1, w2, hrun, hrow1, hfr1⟩ := hrow.append a1 n1 c1 b1 HN1.out (HR1.out.keep hfr) (by rw [hfl]; simp only [cum4] at *; omega)
          have HRUN := Lib.hid hrun
          have HW := Lib.hid (hrow1.join hfr.size hfr1.size)
          have HF := Lib.hid (hfr.then_ hfr1 fun k hk h => Gr.old hk h)
          clear hrow hfr hrun hrow1 hfr1 hfl
          go_wp2_with (at_builtin; refine wpList_append_run rfl _ _ 27 rfl rfl rfl HRUN.out ?_)
          go_roundw
          case rel => exact ⟨1, by simp, by omega, HW.out, HF.out⟩
          case measure => simp [intOf]
        · obtain ⟨v1, w2, hrun, hrow1, hfr1⟩ := hrow.append a2 n2 c2 b2 HN2.out (HR2.out.keep hfr) (by rw [hfl]; simp only [cum4] at *; omega)
          have HRUN := Lib.hid hrun
          have HW := Lib.hid (hrow1.join hfr.size hfr1.size)
          have HF := Lib.hid (hfr.then_ hfr1 fun k hk h => Gr.old hk h)
          clear hrow hfr hrun hrow1 hfr1 hfl
          go_wp2_with (at_builtin; refine wpList_append_run rfl _ _ 27 rfl rfl rfl HRUN.out ?_)
          go_roundw
          case rel => exact ⟨2, by simp, by omega, HW.out, HF.out⟩
          case measure => simp [intOf]
        · obtain ⟨v1, w2, hrun, hrow1, hfr1⟩ := hrow.append a3 n3 c3 b3 HN3.out (HR3.out.keep hfr) (by rw [hfl]; simp only [cum4] at *; omega)
          have HRUN := Lib.hid hrun
          have HW := Lib.hid (hrow1.join hfr.size hfr1.size)
          have HF := Lib.hid (hfr.then_ hfr1 fun k hk h => Gr.old hk h)
          clear hrow hfr hrun hrow1 hfr1 hfl
          go_wp2_with (at_builtin; refine wpList_append_run rfl _ _ 27 rfl rfl rfl HRUN.out ?_)
          go_roundw
          case rel => exact ⟨3, by simp, by omega, HW.out, HF.out⟩
          case measure => simp [intOf]
        · obtain ⟨v1, w2, hrun, hrow1, hfr1⟩ := hrow.append a4 n4 c4 b4 HN4.out (HR4.out.keep hfr) (by rw [hfl]; simp only [cum4] at *; omega)
          have HRUN := Lib.hid hrun
          have HW := Lib.hid (hrow1.join hfr.size hfr1.size)
          have HF := Lib.hid (hfr.then_ hfr1 fun k hk h => Gr.old hk h)
          clear hrow hfr hrun hrow1 hfr1 hfl
          go_wp2_with (at_builtin; refine wpList_append_run rfl _ _ 27 rfl rfl rfl HRUN.out ?_)
          go_roundw
          case rel => exact ⟨4, by simp, by omega, HW.out, HF.out⟩
          case measure => simp [intOf]
        · rw [HEND.out] at hrow
          have HW := Lib.hid hrow
          have HF := Lib.hid hfr
          clear hrow hfr hfl
          go_wp2_with fail
          go_ret
          exact ⟨_, rfl, HW.out, HF.out⟩
end Go.Proofs.YtlobnbbndkhcbaaGreatDoor

/- Layer 12, the program's own: from, At. -/
namespace Go.Proofs.YtlobnbbndkhcbaaGreatDoor
set_option linter.unusedVariables false
set_option linter.unusedSimpArgs false
open Go.RowKit Go.Shelf
attribute [local go_sem] Oper.semAt_some

/-- What from hands back: an iterator over the pairs from k on. -/
def FromRet (l : List Pr) (e k : Nat) (w : World) (en : Ending) (w' : World) : Prop :=
  ∃ B1 B2 b, en = .returned (seqR B1 B2) ∧ Fr No w w' ∧ w'.cell? ⟨B1, 0, none⟩ = some (.string b) ∧ w'.cell? ⟨B2, 0, none⟩ = some (.int .i64 (e : Int)) ∧ w.heap.size ≤ B1 ∧ w.heap.size ≤ B2 ∧ b.size ≤ 10000000000 ∧ readR e 0 emp b = l.drop k
theorem start_cell {w : World} {x : Nat} {F : Nat → Prop} {p : ByteArray} {a : Option Addr} {c : Nat} {l : List Pr} {e : Nat} (h : BkAt w x F p a c l e) {r : Nat} (hr : r < (startsN e l l.length).length) :
    ∃ g o, a = some ⟨g, o, none⟩ ∧ w.cell? ⟨g, o + r, none⟩ = some (.int .i64 ((pairsB e l (r * e)).length : Int)) ∧ r * e < l.length ∧ (pairsB e l (r * e)).length ≤ p.size ∧ readR e 0 emp (p.extract (pairsB e l (r * e)).length p.size) = l.drop (r * e) := by
  obtain ⟨h1, h2⟩ := startsN_get e h.ft.e1 l r hr
  obtain ⟨g, o, _, ha, hc⟩ := h.hi (by omega)
  have hc := hc r hr
  rw [h1] at hc
  have hz := h.size
  have hrest := congrArg List.length (pairsB_rest e l (l.length - r * e) (r * e))
  rw [show r * e + (l.length - r * e) = l.length by omega, ← h.hp, bs_length, List.length_append] at hrest
  exact ⟨g, o, ha, hc, h2, by omega, readR_from (fun i hi => Nat.lt_of_le_of_lt (h.ft.low i hi).1 (by omega)) (by omega) (Nat.mul_mod_left r e) h.hp (by omega)⟩
set_option maxRecDepth 20000 in
set_option maxHeartbeats 3200000 in
theorem from_c {w : World} {x : Nat} {F : Nat → Prop} {l : List Pr} {e : Nat} (h : Bk w x F l e) (r : Nat) (hr : r < (startsN e l l.length).length) :
    Calls Tryz.prog 140 #[.pointer (some ⟨x, 0, none⟩), .int .i64 (r : Int)] w (FromRet l e (r * e) w) := by
  obtain ⟨_, _, p, a, c, h⟩ := h
  obtain ⟨g, o, rfl, cs, h1, h2, h3⟩ := start_cell h hr
  have c0 : w.cell? ⟨x, 0, none⟩ = some (.string p) := h.hd.cell 0
  have c1 : w.cell? ⟨x, 1, none⟩ = some (.slice (some ⟨g, o, none⟩) (startsN e l l.length).length c) := h.hd.cell 1
  have c3 : w.cell? ⟨x, 3, none⟩ = some (.int .i64 (e : Int)) := h.hd.cell 3
  have hz := h.size
  obtain ⟨st, hst⟩ : ∃ st, (pairsB e l (r * e)).length = st := ⟨_, rfl⟩
  rw [hst] at cs h2 h3
  obtain ⟨m, hm⟩ : ∃ m, (startsN e l l.length).length = m := ⟨_, rfl⟩
  rw [hm] at c1 hr
  obtain ⟨q, hq⟩ : ∃ q, p.extract st p.size = q := ⟨_, rfl⟩
  rw [hq] at h3
  have hqz : q.size ≤ 10000000000 := by rw [← hq, size_extract _ _ _ (Nat.le_refl _)]; omega
  have HQ := Lib.hid hq
  have HC := Lib.hid (fun w => read_c q (e : Int) w)
  have HFIN : Hid (∀ w' en, Fr No w w' → ∀ B1 B2, w.heap.size ≤ B1 → w.heap.size ≤ B2 → w'.cell? ⟨B1, 0, none⟩ = some (.string q) → w'.cell? ⟨B2, 0, none⟩ = some (.int .i64 (e : Int)) → en = .returned (seqR B1 B2) → FromRet l e (r * e) w en w') := Lib.hid fun w' en f B1 B2 z1 z2 z3 z4 z5 => ⟨B1, B2, q, z5, f, z3, z4, z1, z2, hqz, h3⟩
  have hri : (r : Int) < (m : Int) := by omega
  have hr0 : (0 : Int) ≤ (r : Int) := by omega
  have hsi : (st : Int) ≤ (p.size : Int) := by omega
  have hs0 : (0 : Int) ≤ (st : Int) := by omega
  have hfx : Fr No w w.drew := (Fr.refl No w).drew
  clear h h1 h3 hst hm hq hqz
  go_enter Tryz.func140, Tryz.ntmps140
  go_wp2_with fail
  go_region_held3 (fun w' => w'.cell? ⟨x, 0, none⟩ = some (.string p) ∧ w'.cell? ⟨x, 1, none⟩ = some (.slice (some ⟨g, o, none⟩) m c) ∧ w'.cell? ⟨x, 3, none⟩ = some (.int .i64 (e : Int)) ∧ w'.cell? ⟨g, o + r, none⟩ = some (.int .i64 (st : Int)) ∧ Fr No w w') (first | assumption | go_keep)
    (first
      | (rw [HQ.out]; go_at_call 139; refine (HC.out _).mono ?_; intro e6 w6 hret; obtain ⟨B1, B2, rfl, f6, z1, z2, z3, z4⟩ := hret
         have HZ := Lib.hid (And.intro z1 (And.intro z2 (And.intro (Nat.le_trans hfx.size z3) (Nat.le_trans hfx.size z4))))
         have c0 := f6.cell c0 (fun h => h)
         have c1 := f6.cell c1 (fun h => h)
         have c3 := f6.cell c3 (fun h => h)
         have cs := f6.cell cs (fun h => h)
         have hfx := hfx.trans f6
         clear f6 z1 z2 z3 z4))
  go_wp2_with fail
  go_ret
  exact HFIN.out _ _ hfx _ _ HZ.out.2.2.1 HZ.out.2.2.2 HZ.out.1 HZ.out.2.1 rfl
theorem at_results (tmps : Array Value) (w : World) (g : Nat) (x y : Value) (hp : tmps.getD 4 undef = .pointer (some ⟨g, 0, none⟩)) (hg : At w g 74 #[x, y]) :
    (results Tryz.f115 tmps).run Tryz.prog w = .ok (.agg #[x, y]) w := by
  have hp' : tmps[4]?.getD undef = .pointer (some ⟨g, 0, none⟩) := by simpa using hp
  have hl := run_loadVar_row (P := Tryz.prog) w g 74 74 #[x, y] (0, 0) _ hg Tryz.underlying74 rfl infoPr
  simp [results, Tryz.results115, hp', asAddr, hl]
/-- The last of a beginning of all places. -/
theorem up_last {m : Nat} {p : List (Plc m)} {z : Plc m} (h : p ++ [z] <+: up m m) : z.val = p.length := by
  obtain ⟨h1, h2⟩ := up_pre h
  rw [List.length_append, List.length_singleton] at h1 h2
  rw [up_step (show p.length < m by omega)] at h2
  obtain ⟨_, h3⟩ := List.append_inj h2 (by rw [up_len m _ (by omega)])
  have := List.cons.inj h3
  rw [this.1]
theorem up_last' {m : Nat} {pre : List (Plc m)} (h : pre <+: up m m) : pre.length ≤ m := (up_pre h).1
/-- What the rounds of an At keep. -/
def AtI (w w1 : World) (L : List Pr) (d : Nat) (pre : List (Plc L.length)) (W : World) : Prop :=
  At W w.heap.size 74 #[.string ⟨#[]⟩, .string ⟨#[]⟩] ∧ At W (w.heap.size + 1) 3 #[.int .i64 ((d - pre.length : Nat) : Int)] ∧ pre.length ≤ d ∧ Fr No w W ∧ w1.heap.size ≤ W.heap.size
theorem own_atI (w w1 : World) (L : List Pr) (d : Nat) (h : w.heap.size ≤ w1.heap.size) : OwnFrom w1.heap.size (AtI w w1 L d) := fun pre W W' row ⟨h1, h2, h3, h4, h5⟩ hg hr =>
  ⟨own_at h1 hg hr, own_at h2 hg hr, h3, own_fr h h4 hg hr, Nat.le_trans h5 hg.size⟩
def AtX (w : World) (L : List Pr) (d : Nat) (c : Code) (pre : List (Plc L.length)) (W : World) : Prop :=
  c = .ret ∧ ∃ (p : List (Plc L.length)) (z : Plc L.length), pre = p ++ [z] ∧ p.length = d ∧ At W w.heap.size 74 #[.string (L.getD z.val pr0).key, .string (L.getD z.val pr0).val] ∧ Fr No w W
theorem own_atX (w w1 : World) (L : List Pr) (d : Nat) (c : Code) (h : w.heap.size ≤ w1.heap.size) : OwnFrom w1.heap.size (AtX w L d c) := fun pre W W' row ⟨h0, p, z, h1, h2, h3, h4⟩ hg hr =>
  ⟨h0, p, z, h1, h2, own_at h3 hg hr, own_fr h h4 hg hr⟩
set_option maxRecDepth 20000 in
set_option maxHeartbeats 3200000 in
theorem at_out {w : World} {x : Nat} {F : Nat → Prop} {l : List Pr} {e : Nat} (h : Bk w x F l e) (i : Int) (hw : (Lit.int .i64 i).wf = true) (ho : ¬ (0 ≤ i ∧ i < l.length)) :
    Calls Tryz.prog 115 #[.pointer (some ⟨x, 0, none⟩), .int .i64 i] w (PlainRet (prV pr0) w) := by
  obtain ⟨_, _, p, a, c, h⟩ := h
  obtain ⟨W0, hW⟩ : ∃ W, w.alloc (.cells #[.string ⟨#[]⟩, .string ⟨#[]⟩] 74) = W := ⟨_, rfl⟩
  have f0 : Fr No w W0 := by rw [← hW]; exact (Fr.refl No w).alloc _
  have a0 : At W0 w.heap.size 74 #[.string ⟨#[]⟩, .string ⟨#[]⟩] := by rw [← hW]; exact At.new _ _ _
  have c2 : W0.cell? ⟨x, 2, none⟩ = some (.int .i64 (l.length : Int)) := f0.cell (h.hd.cell 2) (fun h => h)
  rw [← hW] at c2
  have A2 := Lib.hid a0
  have F2 := Lib.hid f0
  have HW := Lib.hid hW
  obtain ⟨m, hm⟩ : ∃ m, l.length = m := ⟨_, rfl⟩
  rw [hm] at c2 ho
  clear h hW f0 a0 hm
  by_cases h1 : i < 0
  · have d1 : decide (i < 0) = true := decide_eq_true h1
    go_enter Tryz.func115, Tryz.ntmps115
    go_wp2_with fail
    rw [HW.out]
    exact bodyPost_ret (at_results _ _ _ _ _ rfl A2.out) rfl ⟨rfl, F2.out⟩
  · have d1 : decide (i < 0) = false := decide_eq_false h1
    have d2 : decide (i ≥ (m : Int)) = true := decide_eq_true (by omega)
    go_enter Tryz.func115, Tryz.ntmps115
    go_wp2_with fail
    rw [HW.out]
    exact bodyPost_ret (at_results _ _ _ _ _ rfl A2.out) rfl ⟨rfl, F2.out⟩
set_option maxRecDepth 100000 in
set_option maxHeartbeats 4000000 in
theorem at_in {w : World} {x : Nat} {F : Nat → Prop} {l : List Pr} {e : Nat} (h : Bk w x F l e) (i : Nat) (hi : i < l.length) :
    Calls Tryz.prog 115 #[.pointer (some ⟨x, 0, none⟩), .int .i64 (i : Int)] w (PlainRet (prV (l.getD i pr0)) w) := by
  have hxlt : x < w.heap.size := h.2.1 x h.1
  obtain ⟨W0, hW⟩ : ∃ W, (w.alloc (.cells #[.string ⟨#[]⟩, .string ⟨#[]⟩] 74)).alloc (.cells #[.int .i64 ((i % e : Nat) : Int)] 3) = W := ⟨_, rfl⟩
  have f00 : Fr No w (w.alloc (.cells #[.string ⟨#[]⟩, .string ⟨#[]⟩] 74)) := (Fr.refl No w).alloc _
  have f0 : Fr No w W0 := by rw [← hW]; exact ((Fr.refl No w).alloc _).alloc _
  have s0 : W0.heap.size = w.heap.size + 2 := by rw [← hW]; simp
  have a0 : At W0 w.heap.size 74 #[.string ⟨#[]⟩, .string ⟨#[]⟩] := by rw [← hW]; exact (At.new _ _ _).keep ((Fr.refl No _).alloc _) (fun h => h)
  have a1 : At W0 (w.heap.size + 1) 3 #[.int .i64 ((i % e : Nat) : Int)] := by
    have := At.new (w.alloc (.cells #[.string ⟨#[]⟩, .string ⟨#[]⟩] 74)) 3 #[.int .i64 ((i % e : Nat) : Int)]
    rw [World.size_alloc] at this
    rw [← hW]
    exact this
  have he1 : 1 ≤ e := by obtain ⟨_, _, _, _, _, h9⟩ := h; exact h9.ft.e1
  have hcount := startsN_count e he1 l i hi
  have HFC := Lib.hid (from_c (h.keep f0 (fun _ _ h => h)) (i / e) hcount)
  obtain ⟨_, _, p, a, c, h⟩ := h
  have c2 : (w.alloc (.cells #[.string ⟨#[]⟩, .string ⟨#[]⟩] 74)).cell? ⟨x, 2, none⟩ = some (.int .i64 (l.length : Int)) := f00.cell (h.hd.cell 2) (fun h => h)
  have c3 : (w.alloc (.cells #[.string ⟨#[]⟩, .string ⟨#[]⟩] 74)).cell? ⟨x, 3, none⟩ = some (.int .i64 (e : Int)) := f00.cell (h.hd.cell 3) (fun h => h)
  have c3b : W0.cell? ⟨x, 3, none⟩ = some (.int .i64 (e : Int)) := f0.cell (h.hd.cell 3) (fun h => h)
  rw [← hW] at c3b
  have hdm := Nat.div_add_mod i e
  have hml := Nat.mod_lt i (show 0 < e by omega)
  have hil : i ≤ 40000 := by have := h.ft.len; omega
  have he2 := h.ft.e2
  have hdl := Nat.div_le_self i e
  have hrem : (i : Int) % (e : Int) = ((i % e : Nat) : Int) := rfl
  have hquo : (i : Int) / (e : Int) = ((i / e : Nat) : Int) := rfl
  have hrt : (i : Int).tmod (e : Int) = ((i % e : Nat) : Int) := by rw [← Int.ofNat_tmod]
  have hqt : (i : Int).tdiv (e : Int) = ((i / e : Nat) : Int) := by rw [← Int.ofNat_tdiv]
  rw [Nat.mul_comm] at hdm
  obtain ⟨d, hd⟩ : ∃ d, i % e = d := ⟨_, rfl⟩
  obtain ⟨q, hq⟩ : ∃ q, i / e = q := ⟨_, rfl⟩
  rw [hd] at hW a1 hdm hml hrem hrt c3b
  rw [hq] at HFC hdm hdl hquo hqt
  have HW := Lib.hid hW
  have HA0 := Lib.hid a0
  have HA1 := Lib.hid a1
  have HF0 := Lib.hid f0
  have HS0 := Lib.hid s0
  have HDM := Lib.hid hdm
  have HLI := Lib.hid hi
  have d1 : decide ((i : Int) < 0) = false := decide_eq_false (by omega)
  have d2 : decide ((i : Int) ≥ (l.length : Int)) = false := decide_eq_false (by omega)
  have d3 : decide (l.length ≤ i) = false := decide_eq_false (by omega)
  have he0 : ((e : Int) == 0) = false := by rw [beq_eq_false_iff_ne]; omega
  have he00 : ¬ (e : Int) = 0 := by omega
  have he000 : ¬ e = 0 := by omega
  clear h hW a0 a1 f0 s0 f00 hcount hd hq hdm
  refine (callsIn_wide (n := 5)).1 ?_
  refine callsIn_of_wp_marks Tryz.func115 rfl trivial ?_ rfl
  simp only [Tryz.ntmps115, List.size_toArray, List.length_cons, List.length_nil, Nat.reduceAdd, Nat.reduceSub, Array.replicate_succ, Array.replicate_zero, List.push_toArray, List.append_toArray, List.nil_append, List.cons_append]
  refine wpIn_wide.2 ?_
  go_wp2_with fail
  rw [HW.out]
  refine (show Calls _ _ _ _ _ from HFC.out).mono ?_
  rintro en w1 ⟨B1, B2, b, rfl, f1, cb1, cb2, z1, z2, hbz, hrd⟩
  have HF1 := Lib.hid (HF0.out.trans f1)
  have HA0 := Lib.hid (HA0.out.keep f1 (fun h => h))
  have HA1 := Lib.hid (HA1.out.keep f1 (fun h => h))
  rw [HS0.out] at z1 z2
  have hb1 := cell_block cb1
  have hb2 := cell_block cb2
  simp only at hb1 hb2
  obtain ⟨L, hL⟩ : ∃ L, readR e 0 emp b = L := ⟨_, rfl⟩
  have HSQ : Hid (Tells 149 #[.pointer (some ⟨B1, 0, none⟩), .pointer (some ⟨B2, 0, none⟩)] L (fun k => k = B1 ∨ k = B2) w1) := Lib.hid (by rw [← hL]; exact tells_read hbz he1 he2 cb1 cb2 (.inr rfl))
  rw [hL] at hrd
  have HLD := Lib.hid hrd
  clear f1 HFC cb1 cb2 hrd hL
  go_wp2_with fail
  refine (wpIn_wide (n := 5)).1 ?_
  have hf1 := HF1.out
  refine wpIn_rangeFunc_ownH rfl (by omega) (gf := 149) (lb := #[.pointer (some ⟨B1, 0, none⟩), .pointer (some ⟨B2, 0, none⟩)]) rfl trivial (enters_of Tryz.func149 (by kernel_rfl) rfl) HSQ.out
    (fun h k => h.trans k) (fun W k o o' hk h1 h2 _ => Kq.put W k o' (fun h => by rcases h with h | h <;> omega) h1 h2) (Below.refl _ _) (fun _ => rfl)
    (AtI w w1 L d) (AtX w L d) (own_atI w w1 L d hf1.size) (fun c => own_atX w w1 L d c hf1.size)
    ⟨HA0.out, HA1.out, Nat.zero_le _, hf1, Nat.le_refl _⟩
    (fun z a' W => ∃ O, a' = { tmps := #[.pointer (some ⟨x, 0, none⟩), .int .i64 (i : Int), undef, undef, .pointer (some ⟨w.heap.size, 0, none⟩), .pointer (some ⟨w.heap.size + 1, 0, none⟩), .pointer (some ⟨O, 0, none⟩), .int .i64 (i : Int), .bool false, .bool false, .int .i64 (i : Int), .pointer (some ⟨x, 0, none⟩), .pointer (some ⟨x, 0, none⟩), .pointer (some ⟨x, 2, none⟩), .int .i64 (l.length : Int), .bool false, .bool false, undef, .int .i64 (i : Int), .pointer (some ⟨x, 0, none⟩), .pointer (some ⟨x, 0, none⟩), .pointer (some ⟨x, 3, none⟩), .int .i64 (e : Int), .int .i64 (d : Int), .pointer (some ⟨x, 0, none⟩), .int .i64 (i : Int), .pointer (some ⟨x, 0, none⟩), .pointer (some ⟨x, 0, none⟩), .pointer (some ⟨x, 3, none⟩), .int .i64 (e : Int), .int .i64 (q : Int), seqR B1 B2, prV (L.getD z.val pr0), undef, undef, undef, undef, undef, undef], defers := [] } ∧ At W O 74 #[.string (L.getD z.val pr0).key, .string (L.getD z.val pr0).val] ∧ w1.heap.size ≤ O)
    (fun z a' => fun _ W W' row ⟨O, h1, h2, h3⟩ hg hr => ⟨O, h1, own_at h2 hg hr, h3⟩) ?assign ?body ?done ?stop
  case assign =>
    rintro y pre z W K ⟨h1, h2, h3, h4, h5⟩ hK
    obtain ⟨x', hx⟩ : ∃ x', L.getD z.val pr0 = x' := ⟨_, rfl⟩
    rw [hx] at hK ⊢
    obtain ⟨W3, hW3⟩ : ∃ W3, W.alloc (.cells #[.string x'.key, .string x'.val] 74) = W3 := ⟨_, rfl⟩
    have hf3 : Fr No W W3 := by rw [← hW3]; exact (Fr.refl No W).alloc _
    have hat : At W3 W.heap.size 74 #[.string x'.key, .string x'.val] := by rw [← hW3]; exact At.new _ _ _
    have HK1 := Lib.hid (fun a' ee => hK a' W3 (by rw [← hW3]; exact (KeepsOthers.alloc _ _).from _) (Kq.of_fr hf3) ⟨h1.keep hf3 (fun h => h), h2.keep hf3 (fun h => h), h3, h4.trans hf3, Nat.le_trans h5 hf3.size⟩ ⟨W.heap.size, ee, hat, h5⟩)
    have HW3 := Lib.hid hW3
    clear hK h1 h2 h3 h4 h5 hW3 hf3 hat
    unfold prV
    gi_wp2
    rw [HW3.out]
    exact HK1.out _ rfl
  case body =>
    rintro y pre z a2 W hy hl2 ⟨h1, h2, h3, h4, h5⟩ ⟨O, rfl, hat, hO⟩ hlen
    obtain ⟨x', hx⟩ : ∃ x', L.getD z.val pr0 = x' := ⟨_, rfl⟩
    rw [hx] at hat
    have g0 := hat.cell 0
    have g1 := hat.cell 1
    have c5 := h2.cell 0
    have z5 := h2.frozen 0
    obtain ⟨v, hv⟩ : ∃ v, d - pre.length = v := ⟨_, rfl⟩
    rw [hv] at h2 c5
    by_cases hv0 : v = 0
    · have dz : ((v : Int) == 0) = true := by rw [beq_iff_eq]; omega
      have r0 := h1.cell 0
      have r1 := (h1.set_ 0 (.string x'.key)).cell 1
      have q0 := h1.frozen 0
      have q1 := (h1.set_ 0 (.string x'.key)).frozen 1
      have FIN : Hid (KeepsFrom w1.heap.size W ((W.setCell ⟨w.heap.size, 0, none⟩ (.string x'.key)).setCell ⟨w.heap.size, 1, none⟩ (.string x'.val)) ∧ AtX w L d .ret (pre ++ [z]) ((W.setCell ⟨w.heap.size, 0, none⟩ (.string x'.key)).setCell ⟨w.heap.size, 1, none⟩ (.string x'.val))) := Lib.hid
        ⟨((KeepsOthers.setCell _ _ _).trans (KeepsOthers.setCell _ _ _)).from _, rfl, pre, z, rfl, by omega, by rw [hx]; exact (h1.set_ 0 _).set_ 1 _, (h4.setCell (p := ⟨w.heap.size, 0, none⟩) (fun h => absurd h (Nat.lt_irrefl _)) _).setCell (p := ⟨w.heap.size, 1, none⟩) (fun h => absurd h (Nat.lt_irrefl _)) _⟩
      rw [hx]
      have HV := Lib.hid hv
      clear h1 h2 h3 h4 h5 hat hO hx hlen hy hl2 hv
      unfold prV
      gi_wp2
      exact FIN.out
    · have dz : ((v : Int) == 0) = false := by rw [beq_eq_false_iff_ne]; omega
      have hvi : (v : Int) - 1 = ((v - 1 : Nat) : Int) := by omega
      obtain ⟨v1, hv1⟩ : ∃ v1, v - 1 = v1 := ⟨_, rfl⟩
      rw [hv1] at hvi
      have hvw : IntKind.i64.wrap ((v : Int) - 1) = (v1 : Int) := by rw [hvi]; exact IntWalk.i64_in _ (by omega)
      have fs := fr_one W (w.heap.size + 1) 0 (.int .i64 (v1 : Int))
      have FIN : Hid (KeepsFrom w1.heap.size W (W.setCell ⟨w.heap.size + 1, 0, none⟩ (.int .i64 (v1 : Int))) ∧ Kq (fun k => k = B1 ∨ k = B2) W (W.setCell ⟨w.heap.size + 1, 0, none⟩ (.int .i64 (v1 : Int))) ∧ AtI w w1 L d (pre ++ [z]) (W.setCell ⟨w.heap.size + 1, 0, none⟩ (.int .i64 (v1 : Int)))) := Lib.hid
        ⟨(KeepsOthers.setCell _ _ _).from _, ⟨fs.size, fun k hk hs => fs.block k hk (fun h => by
          have h : k = w.heap.size + 1 := h
          subst h
          rcases hs with (hs | hs) | ⟨cs, fz, hs⟩
          · omega
          · omega
          · have := h2.symm.trans hs; cases this)⟩, h1.keep fs (fun h => by have h : w.heap.size = w.heap.size + 1 := h; omega), by
            have e9 : d - (pre ++ [z]).length = v1 := by rw [List.length_append, List.length_singleton]; omega
            rw [e9]
            exact h2.set_ 0 _, by rw [List.length_append, List.length_singleton]; omega, h4.then_ fs (fun k hk h => by have h : k = w.heap.size + 1 := h; omega), Nat.le_trans h5 fs.size⟩
      have hwm : IntKind.i64.wrap (v1 : Int) = (v1 : Int) := IntWalk.i64_in _ (by omega)
      have hw64 : wrap64 (v1 : Int) = (v1 : Int) := by rw [← PlainAid.i64_is]; exact hwm
      rw [hx]
      have HV := Lib.hid hv
      have HV1 := Lib.hid hv1
      clear h1 h2 h3 h4 h5 hat hO hx hlen hy hl2 hv hv1 fs
      unfold prV
      gi_wp2
      first
        | exact FIN.out
        | (rw [← hvi] at FIN; exact FIN.out)
  case done =>
    rintro D ys W hD rfl ⟨h1, h2, h3, h4, h5⟩ hK
    exfalso
    rw [up_len _ _ (Nat.le_refl _)] at h3
    have h9 := congrArg List.length HLD.out
    rw [List.length_drop] at h9
    have := HDM.out
    have := HLI.out
    omega
  case stop =>
    rintro D c pre W hD hpre ⟨rfl, p', z, rfl, h2, h3, h4⟩ hK
    have hz := up_last hpre
    have HV : Hid (L.getD z.val pr0 = l.getD i pr0) := Lib.hid (by
      have e9 : L.getD z.val pr0 = L.getD d pr0 := by rw [hz, h2]
      rw [e9, HLD.out, List.getD_eq_getElem?_getD, List.getD_eq_getElem?_getD, List.getElem?_drop, HDM.out])
    rw [HV.out] at h3
    have hf1s := hf1.size
    clear hz hpre
    gi_wp2
    refine ⟨by simp, .inl ⟨_, _, rfl, run_takeDeferred hK, ?_⟩⟩
    have hg := grownBy_putObj' W D (.deferred none)
    have hr : Turns w1.heap.size W (some D) := fun r e => by cases e; exact ⟨hD, _, hK, rfl⟩
    exact ⟨_, at_results _ _ _ _ _ rfl (own_at h3 hg hr), rfl, own_fr hf1s h4 hg hr⟩
end Go.Proofs.YtlobnbbndkhcbaaGreatDoor
