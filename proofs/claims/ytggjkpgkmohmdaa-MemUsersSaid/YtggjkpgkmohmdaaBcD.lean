/-
  Layer 10, the program's own: Keys.
-/
import Derived.Test.YtggjkpgkmohmdaaBcA
import Derived.Test.YtggjkpgkmohmdaaBaL
import Derived.Laws.MakeOwn
namespace Go.Proofs.Ytggjkpgkmohmdaa
set_option linter.unusedVariables false
open Go.RowKit

/-- The first k keys are laid. -/
def Kd (q : Int) (l : List Op10) (k : Nat) (cs : List Value) : Prop :=
  cs.length = l.length * 3 ∧ ∀ j, j < k → cs[j * 3]? = some (.string (l.getD j op0).key) ∧ cs[j * 3 + 1]? = some (.int .i64 (q + j)) ∧ cs[j * 3 + 2]? = some (.int .i64 (l.getD j op0).k)
theorem Kd.step {q : Int} {l : List Op10} {k : Nat} {cs : List Value} (h : Kd q l k cs) (hk : k < l.length) :
    Kd q l (k + 1) (((cs.set (k * 3) (.string (l.getD k op0).key)).set (k * 3 + 1) (.int .i64 (q + k))).set (k * 3 + 2) (.int .i64 (l.getD k op0).k)) := by
  obtain ⟨h1, h2⟩ := h
  refine ⟨by simp only [List.length_set]; exact h1, fun j hj => ?_⟩
  rcases Nat.lt_or_ge j k with h | h
  · obtain ⟨a, b, c⟩ := h2 j h
    refine ⟨?_, ?_, ?_⟩
    · rw [List.getElem?_set_ne (by omega), List.getElem?_set_ne (by omega), List.getElem?_set_ne (by omega)]; exact a
    · rw [List.getElem?_set_ne (by omega), List.getElem?_set_ne (by omega), List.getElem?_set_ne (by omega)]; exact b
    · rw [List.getElem?_set_ne (by omega), List.getElem?_set_ne (by omega), List.getElem?_set_ne (by omega)]; exact c
  · have : j = k := by omega
    subst this
    refine ⟨?_, ?_, ?_⟩
    · rw [List.getElem?_set_ne (by omega), List.getElem?_set_ne (by omega), List.getElem?_set_self (by omega)]
    · rw [List.getElem?_set_ne (by omega), List.getElem?_set_self (by rw [List.length_set]; omega)]
    · rw [List.getElem?_set_self (by rw [List.length_set, List.length_set]; omega)]
theorem Kd.done {q : Int} {l : List Op10} {cs : List Value} (h : Kd q l l.length cs) : cs = keysC q l := by
  obtain ⟨h1, h2⟩ := h
  apply List.ext_getElem?
  intro i
  rcases Nat.lt_or_ge i (l.length * 3) with h | h
  · have hj : i / 3 < l.length := by omega
    obtain ⟨a, b, c⟩ := h2 (i / 3) hj
    obtain ⟨d, e, f⟩ := keysC_get l q (i / 3) hj
    have h3 : i = i / 3 * 3 ∨ i = i / 3 * 3 + 1 ∨ i = i / 3 * 3 + 2 := by omega
    rcases h3 with h3 | h3 | h3
    · rw [h3, a, d]
    · rw [h3, b, e]
    · rw [h3, c, f]
  · rw [List.getElem?_eq_none (by omega), List.getElem?_eq_none (by rw [keysC_length]; omega)]
theorem rowKey : RowT Try.prog 83 37 (.agg #[.string ⟨#[]⟩, .int .i64 0, .int .i64 0]) 3 32 := ⟨Try.underlying83, by kernel_rfl, rfl, by decide⟩
theorem make_keys (w : World) (n : Nat) (h : n ≤ 64) : ∃ w' cs, (Instr.makeSlice 83 (.int .i64 (n : Int)) (.int .i64 (n : Int))).run Try.prog w = .ok (.slice (some ⟨w.heap.size, 0, none⟩) n n) w' ∧
    RowG w' (One w.heap.size) 37 3 (.slice (some ⟨w.heap.size, 0, none⟩) n n) n cs ∧ cs.length = n * 3 ∧ Fr No w w' := by
  obtain ⟨i0, hi, hz0, hz1, hz2⟩ := info_parts rowKey.info
  have hr := run_make (P := Try.prog) w 83 37 i0 (.agg #[.string ⟨#[]⟩, .int .i64 0, .int .i64 0]) Try.underlying83 hi hz0 .i64 .i64 n n (by omega) (by omega) (by rw [hz2]; omega) (by omega)
  rw [hz1] at hr
  simp only [Int.toNat_natCast] at hr
  have hs : (madeCells (Value.agg #[.string ⟨#[]⟩, .int .i64 0, .int .i64 0]).cells (n * 3)).size = n * 3 := by simp [size_madeCells]
  refine ⟨_, (madeCells (Value.agg #[.string ⟨#[]⟩, .int .i64 0, .int .i64 0]).cells (n * 3)).toList, hr, ⟨⟨by simpa using hs, .inr ⟨w.heap.size, n, _, rfl, Nat.zero_le _, heap_alloc_new w _, Nat.le_refl _, by unfold maxLen; omega, hs, ?_⟩⟩, fun k hk => (Option.some.inj hk).symm⟩, by simpa using hs, (Fr.refl _ _).alloc _⟩
  rw [List.take_of_length_le (by rw [Array.length_toList, hs]; exact Nat.le_refl _)]
set_option maxRecDepth 20000 in
set_option maxHeartbeats 3200000 in
theorem bkeysOwn_c (q : Int) (a : Option Addr) (cap : Nat) (l : List Op10) (w : World) (S : Nat → Prop) (hq : (Lit.int .i64 q).wf = true) (hc : l.length ≤ cap) (hm : cap ≤ maxLen) (hi : Ops w S a l) (hwf : ∀ x ∈ l, OpWf x) :
    Calls Try.prog 34 #[.agg #[.int .i64 q, .slice a l.length cap]] w (KeysR q l w) := by
  obtain ⟨W, hW, hfW, m0, m1⟩ := box_batch w q (.slice a l.length cap)
  have HC := Lib.hid (bcheck_c q a cap l W S hq hc hm (hi.keep hfW fun _ _ h => h) hwf)
  have HI := Lib.hid (hi.sub (T := fun k => k < w.heap.size) fun k hk _ => hk)
  have HW := Lib.hid hW
  have HFW := Lib.hid hfW
  have HP := Lib.hid (fun (h : allO q l = true) => allO_parts h)
  have HST := Lib.hid (fun k cs (h : Kd q l k cs) hk => h.step hk)
  have HDN := Lib.hid (fun cs (h : Kd q l l.length cs) => h.done)
  unfold KeysR
  obtain ⟨n, hn⟩ : ∃ n, l.length = n := ⟨_, rfl⟩
  have HN := Lib.hid hn
  rw [hn] at HC HP HST HDN m1 ⊢
  rw [hn] at HW
  clear hi hwf hW hfW hc hm hn
  cases hall : allO q l with
  | false =>
    have hE : errO (allO q l) = .int .i64 100 := by rw [hall]; rfl
    have HB : Hid (keysO q l = []) := Lib.hid (by unfold keysO; rw [hall]; rfl)
    rw [hE] at HC
    clear hE HI HP hall
    go_enter Try.func34, Try.ntmps34
    go_wp2_with fail
    rw [HW.out]
    go_wp2_with fail
    refine HC.out.mono ?_
    rintro e w1 ⟨rfl, hf1⟩
    have HF1 := Lib.hid hf1
    clear hf1
    go_wp2_with fail
    go_ret
    exact ⟨_, rfl, by rw [HB.out]; exact RowG.nil _ _ _ _, HFW.out.trans HF1.out⟩
  | true =>
    obtain ⟨p1, p2, p3, p4, p5⟩ := HP.out hall
    have hE : errO (allO q l) = .int .i64 0 := by rw [hall]; rfl
    rw [hE] at HC
    have HB : Hid (keysO q l = keysC q l) := Lib.hid (by unfold keysO; rw [hall, if_pos rfl])
    rw [if_pos rfl]
    clear hE HP p5 hall
    go_enter Try.func34, Try.ntmps34
    go_wp2_with fail
    rw [HW.out]
    go_wp2_with fail
    refine HC.out.mono ?_
    rintro e w1 ⟨rfl, hf1⟩
    have m0 := hf1.cell m0 (fun h => h)
    have m1 := hf1.cell m1 (fun h => h)
    have HF1 := Lib.hid (HFW.out.trans hf1)
    obtain ⟨w2, cs, hmk, hrow, hcs, hf2⟩ := make_keys w1 n p2
    have m0 := hf2.cell m0 (fun h => h)
    have m1 := hf2.cell m1 (fun h => h)
    have HROW := Lib.hid hrow
    have HCS := Lib.hid hcs
    have HF2 := Lib.hid (HF1.out.trans hf2)
    have HWG : Hid (w.heap.size < w1.heap.size) := Lib.hid (by
      have := cell_block (hf1.cell (p := ⟨w.heap.size, 0, none⟩) (by assumption) (fun h => h)); exact this)
    clear hf1 hf2 hrow hcs HC
    go_wp2_with fail
    obtain ⟨G, hG⟩ : ∃ y, w1.heap.size = y := ⟨_, rfl⟩
    obtain ⟨B, hB⟩ : ∃ y, w.heap.size = y := ⟨_, rfl⟩
    rw [hG] at HROW HWG ⊢
    rw [hB] at m0 m1 HWG HI ⊢
    have HB0 := Lib.hid hB
    clear hmk hG hB
    have hBG := HWG.out
    go_loopw [16] (fun i wr => ∃ (k : Nat) (cs : List Value), i = .int .i64 k ∧ k ≤ n ∧ RowG wr (One G) 37 3 (.slice (some ⟨G, 0, none⟩) n n) n cs ∧ Kd q l k cs ∧ Fr (One G) w2 wr) (fun i _ => n - (intOf i).toNat)
    case atStart => exact ⟨0, cs, rfl, Nat.zero_le _, HROW.out, ⟨by rw [HN.out]; exact HCS.out, fun j h => absurd h (by omega)⟩, Fr.refl _ _⟩
    case round =>
      obtain ⟨k, cs, rfl, hkn, hrow, hkd, hfr⟩ := hrel
      have HRk := Lib.hid hrow
      have HKk := Lib.hid hkd
      have HFk := Lib.hid hfr
      have z0 := hfr.cell m0 (fun h => by have h : B = G := h; omega)
      have z1 := hfr.cell m1 (fun h => by have h : B = G := h; omega)
      clear hfr hkd
      by_cases hlt : k < n
      · have hkl : k < l.length := by rw [HN.out]; exact hlt
        obtain ⟨b, o, hb, rfl, hxs⟩ := HI.out (by omega)
        have hx := ((hxs k hkl).keep HF2.out (fun h => h)).keep HFk.out (fun h => by have h : b = G := h; omega)
        have HNX := Lib.hid (HST.out k cs HKk.out hlt)
        generalize l.getD k op0 = x at hx HNX
        obtain ⟨W3, hW3, hf3, hat3⟩ := box_op wr x
        obtain ⟨c0, c1, c2⟩ := hx
        obtain ⟨t0, t1, t2⟩ := hat3
        have z0 := hf3.cell z0 (fun h => h)
        have z1 := hf3.cell z1 (fun h => h)
        have hrow3 := hrow.keep hf3 fun _ _ h => h
        obtain ⟨a', c', e1, _, _, _, hcells⟩ := hrow3.form
        injection e1 with e1 _ _
        obtain ⟨G', _, e2, hcells⟩ := hcells (by omega)
        rw [e2] at e1
        injection e1 with e1
        injection e1 with e1 _ _
        subst e1
        obtain ⟨g0, f0⟩ := hcells (k * 3) (by omega)
        obtain ⟨g1, f1⟩ := hcells (k * 3 + 1) (by omega)
        obtain ⟨g2, f2⟩ := hcells (k * 3 + 2) (by omega)
        have hcl : cs.length = n * 3 := by have := HKk.out.1; rw [HN.out] at this; exact this
        rw [List.getElem?_eq_getElem (by omega)] at g0 g1 g2
        have q1 := hrow3.set_ (g := G) rfl (show k * 3 < n * 3 by omega) (.string x.key)
        have q2 := q1.1.set_ (g := G) rfl (show k * 3 + 1 < n * 3 by omega) (.int .i64 (q + k))
        have q3 := q2.1.set_ (g := G) rfl (show k * 3 + 2 < n * 3 by omega) (.int .i64 x.k)
        have HR3 := Lib.hid q3.1
        have HF3 := Lib.hid ((HFk.out.then_ hf3 fun _ _ h => h.elim).trans (q1.2.trans (q2.2.trans q3.2)))
        have HW3 := Lib.hid hW3
        have hwr : IntKind.i64.wrap (q + (k : Int)) = q + (k : Int) := IntWalk.i64_in _ (by omega)
        rw [← hW3] at t0 t1 t2 z0 z1 g0 g1 g2 f0 f1 f2
        clear hW3 hf3 hrow3 hrow q1 q2 q3 hxs e2 hcells
        go_wp2_with fail
        rw [HW3.out]
        go_roundw
        case rel => exact ⟨k + 1, _, by simp, by omega, HR3.out, HNX.out, HF3.out⟩
        case measure => simp [intOf]; omega
      · have hk' : k = n := by omega
        subst hk'
        go_wp2_with fail
        go_ret
        have hfin : Fr No w wr := HF2.out.then_ HFk.out fun b hb h => by
          have h : b = G := h
          have := HB0.out; omega
        exact ⟨_, rfl, by rw [HB.out, ← HDN.out _ HKk.out]; exact HRk.out.sub fun b hb h => .inr ⟨by have h : b = G := h; have := HB0.out; omega, hb⟩, hfin⟩
end Go.Proofs.Ytggjkpgkmohmdaa
