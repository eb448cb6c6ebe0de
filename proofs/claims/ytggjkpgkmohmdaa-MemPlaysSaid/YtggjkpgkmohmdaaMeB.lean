/-
  Layer 11: the document's Put.
-/
import Derived.Test.YtggjkpgkmohmdaaMeA
import Derived.Test.YtggjkpgkmohmdaaIkBd
import Derived.Deep.RegionHeld3
import Derived.Deep.QuietTactic
import Derived.BigQuiet
namespace Go.Proofs.Ytggjkpgkmohmdaa
set_option linter.unusedVariables false
open Go.RowKit

theorem rowEntR : RowT Try.prog 29 41 (.agg #[.string ⟨#[]⟩, .int .i64 0, .int .i64 0, .string ⟨#[]⟩]) 4 48 := ⟨Try.underlying29, by kernel_rfl, rfl, by decide⟩
/-- A row of entries of the call's own comes back, and nothing that was there has turned. -/
def NewEnts (ty : TypeId) (l : List Ent) (w : World) (e : Ending) (w' : World) : Prop := ∃ v, e = .returned v ∧ RowG w' (Gr No w w') ty 4 v l.length (entsC l) ∧ Fr No w w'
/-- An entry in a block of its own. -/
theorem box_ent (w : World) (x : Ent) (t : TypeId) :
    ∃ W, w.alloc (.cells #[.string x.u, .int .i64 x.q, .int .i64 x.k, .string x.val] t) = W ∧ Fr No w W ∧ EntAt W w.heap.size 0 x :=
  ⟨_, rfl, (Fr.refl _ _).alloc _, by rw [cell_of_row _ w.heap.size 0 _ _ (0, 0) (heap_alloc_new w _)]; rfl, by rw [cell_of_row _ w.heap.size 1 _ _ (0, 0) (heap_alloc_new w _)]; rfl, by rw [cell_of_row _ w.heap.size 2 _ _ (0, 0) (heap_alloc_new w _)]; rfl, by rw [cell_of_row _ w.heap.size 3 _ _ (0, 0) (heap_alloc_new w _)]; rfl⟩
/-- What holds at each round's head of Put: what was laid, whether x is among it. -/
def PutI (x : Ent) (l : List Ent) (k : Nat) (d : Bool) (out : List Ent) : Prop :=
  (d = false ∧ out = l.take k ∧ putL x l = l.take k ++ putL x (l.drop k)) ∨ (d = true ∧ putL x l = out ++ l.drop k ∧ out.length = k + 1)
theorem PutI.start (x : Ent) (l : List Ent) : PutI x l 0 false [] := .inl ⟨rfl, rfl, rfl⟩
theorem PutI.here {x : Ent} {l : List Ent} {k : Nat} (h : PutI x l k false (l.take k)) (hk : k < l.length) (hc : cmpE x (l.getD k ent0) < 0) : PutI x l (k + 1) true (l.take k ++ [x] ++ [l.getD k ent0]) := by
  rcases h with ⟨_, _, h⟩ | ⟨h, _⟩
  · refine .inr ⟨rfl, ?_, by simp; omega⟩
    rw [h, drop_ent l k hk]
    unfold putL
    rw [if_pos hc]
    simp
  · cases h
theorem PutI.on {x : Ent} {l : List Ent} {k : Nat} (h : PutI x l k false (l.take k)) (hk : k < l.length) (hc : ¬ cmpE x (l.getD k ent0) < 0) : PutI x l (k + 1) false (l.take (k + 1)) := by
  rcases h with ⟨_, _, h⟩ | ⟨h, _⟩
  · refine .inl ⟨rfl, rfl, ?_⟩
    rw [h, drop_ent l k hk]
    conv => lhs; unfold putL
    rw [if_neg hc, take_ent l k hk, List.append_assoc]
    rfl
  · cases h
theorem PutI.past {x : Ent} {l : List Ent} {k : Nat} {out : List Ent} (h : PutI x l k true out) (hk : k < l.length) : PutI x l (k + 1) true (out ++ [l.getD k ent0]) := by
  rcases h with ⟨h, _⟩ | ⟨_, h, hl⟩
  · cases h
  · refine .inr ⟨rfl, ?_, by simp [hl]⟩
    rw [h, drop_ent l k hk]
    simp
theorem RowG.growE {w w1 w2 : World} {e : TypeId} {k : Nat} {v : Value} {n : Nat} {cs : List Value} (h : RowG w1 (Gr No w w1) e k v n cs) (f : Fr No w1 w2) : RowG w2 (Gr No w w2) e k v n cs :=
  (h.keep f fun _ _ h => h).sub fun x _ hx => by
    rcases hx with hx | hx
    · exact hx.elim
    · exact .inr ⟨hx.1, Nat.lt_of_lt_of_le hx.2 f.size⟩
set_option maxRecDepth 20000 in
set_option maxHeartbeats 3200000 in
theorem refPut_c (a : Option Addr) (cap n : Nat) (l : List Ent) (x : Ent) (w : World) (S : Nat → Prop) (hn : l.length = n) (hm : n ≤ 900000) (hi : Ents w S a l) (hwf : ∀ y ∈ l, EntWf y) (hx : EntWf x) :
    Calls Try.prog 24 #[.slice a n cap, entV x] w (NewEnts 41 (putL x l) w) := by
  obtain ⟨W, hW, hfW, hat⟩ := box_ent w x 41
  obtain ⟨B, hB⟩ : ∃ B, w.heap.size = B := ⟨_, rfl⟩
  rw [hB] at hat
  have HW := Lib.hid hW
  have HB := Lib.hid hB
  have HFW := Lib.hid hfW
  have HN := Lib.hid hn
  have HI := Lib.hid hi
  have HWF := Lib.hid hwf
  have HX := Lib.hid hx
  have HEX := Lib.hid hat
  obtain ⟨x0, x1, x2, x3⟩ := hat
  clear hW hB hfW hn hi hwf hx
  unfold entV
  go_enter Try.func24, Try.ntmps24
  go_wp2_with fail
  rw [HW.out, HB.out]
  go_loopw [5, 6, 7] (fun vo dn i wr => ∃ (k : Nat) (d : Bool) (out : List Ent) (m : Nat), dn = .bool d ∧ i = .int .i64 k ∧ k ≤ n ∧ out.length = m ∧ m ≤ k + 1 ∧ PutI x l k d out ∧ RowG wr (Gr No W wr) 41 4 vo m (entsC out) ∧ Fr No W wr) (fun _ _ i _ => n - (intOf i).toNat)
  case atStart => exact ⟨0, false, [], 0, rfl, rfl, Nat.zero_le _, rfl, by omega, PutI.start x l, RowG.nil _ _ _ _, Fr.refl _ _⟩
  case round =>
    obtain ⟨k, d, out, m, rfl, rfl, hk, hml, hmk, hI, hrow, hfr⟩ := hrel
    obtain ⟨va, vc, rfl, _, _, _, _⟩ := hrow.form
    have HR := Lib.hid hrow
    have HF := Lib.hid hfr
    have HPI := Lib.hid hI
    have HML := Lib.hid hml
    clear hrow hfr hI hml
    have x0 := HF.out.cell x0 (fun h => h)
    have x1 := HF.out.cell x1 (fun h => h)
    have x2 := HF.out.cell x2 (fun h => h)
    have x3 := HF.out.cell x3 (fun h => h)
    by_cases hlt : k < n
    · have hkl : k < l.length := by rw [HN.out]; exact hlt
      obtain ⟨b, o, _, rfl, hxs⟩ := HI.out (by omega)
      have hyW := (hxs k hkl).keep HFW.out (fun h => h)
      have hy := hyW.keep HF.out (fun h => h)
      have HYW := Lib.hid (HWF.out _ (getD_memE l k hkl))
      have HH := Lib.hid (fun (h : PutI x l k false (l.take k)) hc => h.here hkl hc)
      have HO := Lib.hid (fun (h : PutI x l k false (l.take k)) hc => h.on hkl hc)
      have HP := Lib.hid (fun (h : PutI x l k true out) => h.past hkl)
      obtain ⟨y, hy0⟩ : ∃ y, l.getD k ent0 = y := ⟨_, rfl⟩
      rw [hy0] at hy hyW HYW HH HO HP
      have HTK := Lib.hid (take_ent l k hkl)
      rw [hy0] at HTK
      clear hy0 hxs
      have HEY := Lib.hid hyW
      clear hyW
      obtain ⟨c0, c1, c2, c3⟩ := hy
      cases d with
      | true =>
        go_wp2_with fail
        go_quiet (fail)
        rename_i nq
        obtain ⟨wd, hd⟩ : ∃ wd, wr.drewN nq = wd := ⟨_, rfl⟩
        rw [hd]
        have fd : Fr No wr wd := by rw [← hd]; exact (Fr.refl No wr).drewN nq
        have x0 := fd.cell x0 (fun h => h)
        have c0d := fd.cell c0 (fun h => h)
        have c1d := fd.cell c1 (fun h => h)
        have c2d := fd.cell c2 (fun h => h)
        have c3d := fd.cell c3 (fun h => h)
        obtain ⟨v', w', hrun, hrow', hfr'⟩ := push_ent rowEntR (by decide) W wd _ m out y HML.out (HR.out.growE fd) (HF.out.trans fd) (by omega)
        obtain ⟨va', vc', rfl, _, _, _, _⟩ := hrow'.form
        have HRUN := Lib.hid hrun
        have HR2 := Lib.hid hrow'
        have HF2 := Lib.hid hfr'
        have HML2 : Hid ((out ++ [y]).length = m + 1) := Lib.hid (by rw [List.length_append, HML.out]; rfl)
        clear hrun hrow' hfr' fd hd
        go_wp2_with (at_builtin; refine wpList_append_run rfl _ _ 29 rfl rfl rfl HRUN.out ?_)
        go_roundw
        case rel => exact ⟨k + 1, true, out ++ [y], m + 1, rfl, by simp, by omega, HML2.out, by omega, HP.out HPI.out, HR2.out, HF2.out⟩
        case measure => simp [intOf]; omega
      | false =>
        have hout : out = l.take k := by
          rcases HPI.out with ⟨_, h, _⟩ | ⟨h, _⟩
          · exact h
          · cases h
        subst hout
        have HC := Lib.hid (fun w' => refCmp_c x.u y.u x.q x.k y.q y.k HX.out.1 HYW.out.1 w')
        have hce : cmpK x.u.data.toList x.q x.k y.u.data.toList y.q y.k = cmpE x y := rfl
        rw [hce] at HC
        obtain ⟨c, hc⟩ : ∃ c, cmpE x y = c := ⟨_, rfl⟩
        rw [hc] at HC HH HO
        clear hce hc
        have hfx := HF.out.drew
        by_cases hlt0 : c < 0
        · have d0 : decide (c < 0) = true := decide_eq_true hlt0
          go_wp2_with fail
          go_region_held3 (fun w' => w'.cell? ⟨B, 0, none⟩ = some (.string x.u) ∧ w'.cell? ⟨B, 0 + 1, none⟩ = some (.int .i64 x.q) ∧ w'.cell? ⟨B, 0 + 2, none⟩ = some (.int .i64 x.k) ∧ w'.cell? ⟨b, o + k * 4, none⟩ = some (.string y.u) ∧ w'.cell? ⟨b, o + k * 4 + 1, none⟩ = some (.int .i64 y.q) ∧ w'.cell? ⟨b, o + k * 4 + 2, none⟩ = some (.int .i64 y.k) ∧ Fr No W w') (first | assumption | go_keep)
            (first
              | (go_at_call 31; refine (HC.out _).mono ?_; intro e w6 hret; obtain ⟨rfl, hf6⟩ := hret
                 have x0 := hf6.cell (p := ⟨B, 0, none⟩) x0 (fun h => h)
                 have x1 := hf6.cell (p := ⟨B, 0 + 1, none⟩) x1 (fun h => h)
                 have x2 := hf6.cell (p := ⟨B, 0 + 2, none⟩) x2 (fun h => h)
                 have x3 := hf6.cell (p := ⟨B, 0 + 3, none⟩) (v := .string x.val) x3 (fun h => h)
                 have c0 := hf6.cell (p := ⟨b, o + k * 4, none⟩) c0 (fun h => h)
                 have c1 := hf6.cell (p := ⟨b, o + k * 4 + 1, none⟩) c1 (fun h => h)
                 have c2 := hf6.cell (p := ⟨b, o + k * 4 + 2, none⟩) c2 (fun h => h)
                 have c3 := hf6.cell (p := ⟨b, o + k * 4 + 3, none⟩) (v := .string y.val) c3 (fun h => h)
                 have HR6 := Lib.hid (HR.out.growE ((Fr.refl No wr).drew.trans hf6))
                 have hfx := hfx.trans hf6
                 clear hf6))
          obtain ⟨v7, w7, hrun7, hrow7, hf7⟩ := push_ent rowEntR (by decide) W w6 _ m (l.take k) x HML.out HR6.out hfx (by omega)
          obtain ⟨va7, vc7, rfl, _, _, _, _⟩ := hrow7.form
          have HML7 : Hid ((l.take k ++ [x]).length = m + 1) := Lib.hid (by rw [List.length_append, HML.out]; rfl)
          have HML8 : Hid ((l.take k ++ [x] ++ [y]).length = m + 1 + 1) := Lib.hid (by rw [List.length_append, HML7.out]; rfl)
          have hmk' : m = k := by have := HML.out; rw [List.length_take] at this; omega
          have hEY := HEY.out.keep hf7 (fun h => h)
          obtain ⟨e0, e1, e2, e3⟩ := hEY
          obtain ⟨v8, w8, hrun8, hrow8, hf8⟩ := push_ent rowEntR (by decide) W w7 _ (m + 1) (l.take k ++ [x]) y HML7.out hrow7 hf7 (by omega)
          obtain ⟨va8, vc8, rfl, _, _, _, _⟩ := hrow8.form
          have HRUN8 := Lib.hid hrun8
          have HR8 := Lib.hid hrow8
          have HF8 := Lib.hid hf8
          have HRUN7 := Lib.hid hrun7
          clear hrun7 hrow7 hf7 hrun8 hrow8 hf8 hmk'
          go_wp2_with (at_builtin; first | refine wpList_append_run rfl _ _ 29 rfl rfl rfl HRUN7.out ?_ | refine wpList_append_run rfl _ _ 29 rfl rfl rfl HRUN8.out ?_)
          go_roundw
          case rel => exact ⟨k + 1, true, l.take k ++ [x] ++ [y], m + 1 + 1, rfl, by simp, by omega, HML8.out, by have := HML.out; rw [List.length_take] at this; omega, HH.out HPI.out hlt0, HR8.out, HF8.out⟩
          case measure => simp [intOf]; omega
        · have d0 : decide (c < 0) = false := decide_eq_false hlt0
          go_wp2_with fail
          go_region_held3 (fun w' => w'.cell? ⟨B, 0, none⟩ = some (.string x.u) ∧ w'.cell? ⟨B, 0 + 1, none⟩ = some (.int .i64 x.q) ∧ w'.cell? ⟨B, 0 + 2, none⟩ = some (.int .i64 x.k) ∧ w'.cell? ⟨b, o + k * 4, none⟩ = some (.string y.u) ∧ w'.cell? ⟨b, o + k * 4 + 1, none⟩ = some (.int .i64 y.q) ∧ w'.cell? ⟨b, o + k * 4 + 2, none⟩ = some (.int .i64 y.k) ∧ Fr No W w') (first | assumption | go_keep)
            (first
              | (go_at_call 31; refine (HC.out _).mono ?_; intro e w6 hret; obtain ⟨rfl, hf6⟩ := hret
                 have x0 := hf6.cell (p := ⟨B, 0, none⟩) x0 (fun h => h)
                 have x1 := hf6.cell (p := ⟨B, 0 + 1, none⟩) x1 (fun h => h)
                 have x2 := hf6.cell (p := ⟨B, 0 + 2, none⟩) x2 (fun h => h)
                 have x3 := hf6.cell (p := ⟨B, 0 + 3, none⟩) (v := .string x.val) x3 (fun h => h)
                 have c0 := hf6.cell (p := ⟨b, o + k * 4, none⟩) c0 (fun h => h)
                 have c1 := hf6.cell (p := ⟨b, o + k * 4 + 1, none⟩) c1 (fun h => h)
                 have c2 := hf6.cell (p := ⟨b, o + k * 4 + 2, none⟩) c2 (fun h => h)
                 have c3 := hf6.cell (p := ⟨b, o + k * 4 + 3, none⟩) (v := .string y.val) c3 (fun h => h)
                 have HR6 := Lib.hid (HR.out.growE ((Fr.refl No wr).drew.trans hf6))
                 have hfx := hfx.trans hf6
                 clear hf6))
          obtain ⟨v8, w8, hrun8, hrow8, hf8⟩ := push_ent rowEntR (by decide) W w6 _ m (l.take k) y HML.out HR6.out hfx (by omega)
          obtain ⟨va8, vc8, rfl, _, _, _, _⟩ := hrow8.form
          have HRUN8 := Lib.hid hrun8
          have HR8 := Lib.hid hrow8
          have HF8 := Lib.hid hf8
          have HML8 : Hid ((l.take (k + 1)).length = m + 1) := Lib.hid (by rw [HTK.out, List.length_append, HML.out]; rfl)
          rw [← HTK.out] at HR8
          clear hrun8 hrow8 hf8
          go_wp2_with (at_builtin; refine wpList_append_run rfl _ _ 29 rfl rfl rfl HRUN8.out ?_)
          go_roundw
          case rel => exact ⟨k + 1, false, l.take (k + 1), m + 1, rfl, by simp, by omega, HML8.out, by omega, HO.out HPI.out hlt0, HR8.out, HF8.out⟩
          case measure => simp [intOf]; omega
    · have hk' : k = n := by omega
      subst hk'
      have HPT : Hid ((d = false ∧ out = l ∧ putL x l = l ++ [x]) ∨ (d = true ∧ putL x l = out)) := Lib.hid (by
        have hd : l.drop k = [] := List.drop_eq_nil_of_le (by rw [HN.out]; exact Nat.le_refl _)
        have ht : l.take k = l := List.take_of_length_le (by rw [HN.out]; exact Nat.le_refl _)
        rcases HPI.out with ⟨h1, h2, h3⟩ | ⟨h1, h2, h3⟩
        · rw [ht] at h2 h3
          rw [hd] at h3
          exact .inl ⟨h1, h2, h3⟩
        · rw [hd, List.append_nil] at h2
          exact .inr ⟨h1, h2⟩)
      have HSUB : Hid (∀ (w' : World) (v : Value) (m : Nat) (o : List Ent), o = putL x l → o.length = m → RowG w' (Gr No W w') 41 4 v m (entsC o) → Fr No W w' → NewEnts 41 (putL x l) w (.returned v) w') := Lib.hid fun w' v m o ho hl h1 h2 => by
        subst hl
        rw [ho] at h1
        exact ⟨v, rfl, h1.sub fun b hb h => by
          rcases h with h | h
          · exact .inl h
          · exact .inr ⟨Nat.le_trans HFW.out.size h.1, h.2⟩, HFW.out.trans h2⟩
      cases d with
      | true =>
        have HE := Lib.hid (HSUB.out wr _ m out (by
          rcases HPT.out with ⟨h, _⟩ | ⟨_, h⟩
          · cases h
          · exact h.symm) HML.out HR.out HF.out)
        go_wp2_with fail
        go_ret
        exact HE.out
      | false =>
        obtain ⟨v8, w8, hrun8, hrow8, hf8⟩ := push_ent rowEntR (by decide) W wr _ m out x HML.out HR.out HF.out (by omega)
        obtain ⟨va8, vc8, rfl, _, _, _, _⟩ := hrow8.form
        have HRUN8 := Lib.hid hrun8
        have HE := Lib.hid (HSUB.out w8 _ (m + 1) (out ++ [x]) (by
          rcases HPT.out with ⟨_, h1, h2⟩ | ⟨h, _⟩
          · rw [h1, h2]
          · cases h) (by rw [List.length_append, HML.out]; rfl) hrow8 hf8)
        clear hrun8 hrow8 hf8
        go_wp2_with (at_builtin; refine wpList_append_run rfl _ _ 29 rfl rfl rfl HRUN8.out ?_)
        go_ret
        exact HE.out
end Go.Proofs.Ytggjkpgkmohmdaa
