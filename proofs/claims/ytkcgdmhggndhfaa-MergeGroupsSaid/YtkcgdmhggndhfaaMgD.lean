/-
  Layer 6: contracts of the laws' all and the document's One.
-/
import Derived.Test.YtkcgdmhggndhfaaMgC
namespace Go.Proofs.Ytkcgdmhggndhfaa
set_option linter.unusedVariables false
open Go.RowKit

theorem rowRuns : RowT Try.prog 25 27 (.slice none 0 0) 1 24 := ⟨Try.underlying25, by kernel_rfl, rfl, by decide⟩
def rnC (rs : List Rn) : List Value := rs.map fun x => .slice x.a x.l.length x.c
theorem rnC_length (rs : List Rn) : (rnC rs).length = rs.length := by simp [rnC]
/-- The runs that stand in a row of the call's own (its block is of S, what they read of X). -/
structure RnRow (B : Nat) (e : TypeId) (w : World) (v : Value) (rs : List Rn) (S X : Nat → Prop) : Prop where
  row : RowG w S e 1 v rs.length (rnC rs)
  sb : ∀ k, S k → B ≤ k ∧ k < w.heap.size ∧ ¬ X k
  xb : ∀ k, X k → B ≤ k ∧ k < w.heap.size
  el : ∀ x ∈ rs, x.l.length ≤ x.c ∧ x.c ≤ maxLen ∧ InP w X x.a x.l
theorem RnRow.inR {B : Nat} {e : TypeId} {w : World} {v : Value} {rs : List Rn} {S X : Nat → Prop} (h : RnRow B e w v rs S X) : ∃ a c, v = .slice a rs.length c ∧ rs.length ≤ c ∧ c ≤ maxLen ∧ InR w (From B) a rs := by
  obtain ⟨a, c, rfl, h1, h2, _, h3⟩ := h.row.form
  refine ⟨a, c, rfl, h1, h2, fun hl => ?_⟩
  obtain ⟨b, hb, rfl, hc⟩ := h3 hl
  refine ⟨b, 0, (h.sb b hb).1, rfl, fun i x hx => ?_⟩
  have hi : i < rs.length := by
    rcases Nat.lt_or_ge i rs.length with h | h
    · exact h
    · rw [List.getElem?_eq_none h] at hx; cases hx
  obtain ⟨e1, e2, e3⟩ := h.el x (List.mem_of_getElem? hx)
  refine ⟨?_, e1, e2, e3.sub fun k _ hk => (h.xb k hk).1⟩
  rw [Nat.zero_add, (hc i (by omega)).1]
  unfold rnC
  rw [List.getElem?_map, hx]
  rfl
theorem lens_take (rs : List Rn) (j : Nat) (x : Rn) (h : rs[j]? = some x) : (lens rs).take (j + 1) = (lens rs).take j ++ [x.l] := by
  unfold lens
  rw [List.take_add_one, List.getElem?_map, h]
  rfl
set_option maxRecDepth 20000 in
set_option maxHeartbeats 1600000 in
theorem all_c (T : Nat → Prop) (a : Option Addr) (cap : Nat) (rs : List Rn) (w : World) (hl : rs.length ≤ 1000) (hs : ∀ x ∈ rs, x.l.length ≤ 100000) (hc : rs.length ≤ cap) (hm : cap ≤ maxLen) (hr : InR w T a rs) :
    Calls Try.prog 11 #[.slice a rs.length cap] w fun e w' => ∃ b c rs', e = .returned (.slice b rs'.length c) ∧ rs'.length ≤ c ∧ c ≤ maxLen ∧ lens rs' = lens rs ∧ InR w' (From w.heap.size) b rs' ∧ Fr No w w' := by
  unfold maxLen at hm
  have HC := Lib.hid hr
  have HT := Lib.hid (lens_take rs)
  have HSZ := Lib.hid hs
  clear hr hs
  unfold InR at HC
  obtain ⟨n, hn⟩ : ∃ n, rs.length = n := ⟨_, rfl⟩
  rw [hn] at hc hl HC
  rw [hn]
  have HN := Lib.hid hn
  clear hn
  go_enter Try.func11, Try.ntmps11
  go_wp2_with fail
  go_loopw [3, 8] (fun vo i wr => ∃ (j : Nat) (qs : List Rn) (S X : Nat → Prop), i = .int .i64 j ∧ j ≤ n ∧ qs.length = j ∧ lens qs = (lens rs).take j ∧ RnRow w.heap.size 27 wr vo qs S X ∧ Fr No w wr) (fun _ i _ => n - (intOf i).toNat)
  case atStart => exact ⟨0, [], No, No, rfl, Nat.zero_le _, rfl, rfl, ⟨RowG.nil _ _ _ _, fun _ h => h.elim, fun _ h => h.elim, fun x h => by cases h⟩, Fr.refl _ _⟩
  case round =>
    obtain ⟨j, qs, S, X, rfl, hj, hqj, hqs, hrow, hfr⟩ := hrel
    have HROW := Lib.hid hrow
    have HF := Lib.hid hfr
    have HQJ := Lib.hid hqj
    have HQS := Lib.hid hqs
    clear hrow hfr hqj hqs
    by_cases h1 : j < n
    · have d1 : decide ((j : Int) < (n : Int)) = true := by rw [decide_eq_true_eq]; omega
      obtain ⟨b, o, _, rfl, hx⟩ := HC.out (by omega)
      obtain ⟨x, hx0⟩ : ∃ x, rs[j]? = some x := ⟨_, List.getElem?_eq_getElem (by rw [HN.out]; exact h1)⟩
      have hxj := hx j x hx0
      have q0 := HF.out.cell hxj.c0 (fun h => h)
      have HX0 := Lib.hid hx0
      have HIT := Lib.hid (items_c T x.a x.c x.l wr (HSZ.out x (List.mem_of_getElem? hx0)) hxj.le hxj.cm (hxj.rd.keep HF.out (fun _ _ h => h)))
      obtain ⟨m, hm0⟩ : ∃ m, x.l.length = m := ⟨_, rfl⟩
      obtain ⟨xa, hxa⟩ : ∃ m, x.a = m := ⟨_, rfl⟩
      obtain ⟨xc, hxc⟩ : ∃ m, x.c = m := ⟨_, rfl⟩
      rw [hm0, hxa, hxc] at q0 HIT
      clear hx hx0 hm0 hxa hxc hxj
      go_wp2_with fail
      refine HIT.out.mono ?_
      rintro e w2 ⟨u, rfl, ⟨ua, uc, rfl, ule, ucm, uin⟩, f2⟩
      have hrow2 := HROW.out.row.keep f2 (fun _ _ h => h)
      obtain ⟨v3, w3, hrun, hrow3, hfr3⟩ := hrow2.push rowRuns (fun k hk => Nat.lt_of_lt_of_le (HROW.out.sb k hk).2.1 f2.size) [.slice ua x.l.length uc] rfl (by intro u hu; simp at hu; subst hu; rfl) (by rw [HQJ.out]; omega) (by rw [HQJ.out]; omega)
      have HRUN := Lib.hid hrun
      have HQ : Hid (RnRow w.heap.size 27 w3 v3 (qs ++ [⟨ua, uc, x.l⟩]) (Gr S w2 w3) (fun k => X k ∨ (wr.heap.size ≤ k ∧ k < w2.heap.size))) := Lib.hid (by
        have hsz2 := f2.size
        have hsz3 := hfr3.size
        have hsz := HF.out.size
        have dis : ∀ k, (X k ∨ (wr.heap.size ≤ k ∧ k < w2.heap.size)) → ¬ S k := fun k hk hS => by
          have := HROW.out.sb k hS
          rcases hk with hk | hk
          · exact this.2.2 hk
          · omega
        refine ⟨?_, fun k hk => ?_, fun k hk => ?_, fun y hy => ?_⟩
        · rw [List.length_append, show rnC (qs ++ [⟨ua, uc, x.l⟩]) = rnC qs ++ [.slice ua x.l.length uc] by simp [rnC]]
          exact hrow3
        · rcases hk with hk | hk
          · have := HROW.out.sb k hk
            exact ⟨this.1, by omega, fun h => dis k h hk⟩
          · refine ⟨by omega, hk.2, fun h => ?_⟩
            rcases h with h | h
            · have := (HROW.out.xb k h).2
              omega
            · omega
        · rcases hk with hk | hk
          · have := HROW.out.xb k hk
            exact ⟨this.1, by omega⟩
          · exact ⟨by omega, by omega⟩
        · rcases List.mem_append.1 hy with hy | hy
          · obtain ⟨e1, e2, e3⟩ := HROW.out.el y hy
            exact ⟨e1, e2, ((e3.keep f2 (fun _ _ h => h)).sub (fun _ _ h => .inl h)).keep hfr3 dis⟩
          · obtain rfl : y = ⟨ua, uc, x.l⟩ := by simpa using hy
            exact ⟨ule, ucm, (uin.sub (fun k hk h => .inr ⟨h, hk⟩)).keep hfr3 dis⟩)
      have HQS2 : Hid (lens (qs ++ [⟨ua, uc, x.l⟩]) = (lens rs).take (j + 1)) := Lib.hid (by
        rw [HT.out j x HX0.out, ← HQS.out]
        simp [lens])
      have HF3 : Hid (Fr No w w3) := Lib.hid ((HF.out.trans f2).then_ hfr3 fun k hk hS => absurd (HROW.out.sb k hS).1 (by omega))
      clear hrun hrow2 hrow3 hfr3 uin f2 ule ucm q0
      go_wp2_with (at_builtin; refine wpList_append_run rfl _ _ 25 rfl rfl rfl HRUN.out ?_)
      go_roundw
      case rel => exact ⟨j + 1, qs ++ [⟨ua, uc, x.l⟩], _, _, by simp, by omega, by rw [List.length_append, HQJ.out]; rfl, HQS2.out, HQ.out, HF3.out⟩
      case measure => simp [intOf]; omega
    · obtain rfl : j = n := by omega
      have d1 : decide ((j : Int) < (j : Int)) = false := by simp
      obtain ⟨b, c, rfl, h2, h3, h4⟩ := HROW.out.inR
      have HE : Hid (lens qs = lens rs) := Lib.hid (by
        rw [HQS.out, List.take_of_length_le]
        unfold lens
        rw [List.length_map, HN.out]
        exact Nat.le_refl _)
      have H2 := Lib.hid h2
      have H3 := Lib.hid h3
      have H4 := Lib.hid h4
      clear h2 h3 h4
      go_wp2_with fail
      go_ret
      exact ⟨b, c, qs, rfl, H2.out, H3.out, HE.out, H4.out, HF.out⟩

/-! ### The document's One. -/
def oneSt (out : List P2) (x : P2) : List P2 := if hasP out x.1 then out else insP x out
def oneRun (out l : List P2) : List P2 := l.foldl oneSt out
def oneP (ls : List (List P2)) : List P2 := ls.foldl oneRun []
theorem oneSt_le (out : List P2) (x : P2) : (oneSt out x).length ≤ out.length + 1 := by
  unfold oneSt
  split
  · omega
  · rw [insP_length]; omega
theorem oneRun_le (l : List P2) : ∀ out : List P2, (oneRun out l).length ≤ out.length + l.length := by
  induction l with
  | nil => intro out; exact Nat.le_refl _
  | cons x xs ih =>
    intro out
    have := ih (oneSt out x)
    have h2 := oneSt_le out x
    show (oneRun (oneSt out x) xs).length ≤ _
    rw [List.length_cons]
    omega
theorem oneRun_take (out l : List P2) (k : Nat) (h : k < l.length) : oneRun out (l.take (k + 1)) = oneSt (oneRun out (l.take k)) ((l.getD k p20).1, (l.getD k p20).2) := by
  unfold oneRun
  rw [take_p2 l k h, List.foldl_append]
  rfl
theorem oneP_take (rs : List Rn) (j : Nat) (x : Rn) (h : rs[j]? = some x) : oneP ((lens rs).take (j + 1)) = oneRun (oneP ((lens rs).take j)) x.l := by
  unfold oneP
  rw [lens_take rs j x h, List.foldl_append]
  rfl
theorem PairsV.keep {B : Nat} {l : List P2} {v : Value} {w w' : World} (h : PairsV B l v w) (f : Fr No w w') : PairsV B l v w' := by
  obtain ⟨a, c, h1, h2, h3, h4⟩ := h
  exact ⟨a, c, h1, h2, h3, h4.keep f (fun _ _ h => h)⟩
theorem PairsV.mono {B B' : Nat} {l : List P2} {v : Value} {w : World} (h : PairsV B' l v w) (hB : B ≤ B') : PairsV B l v w := by
  obtain ⟨a, c, h1, h2, h3, h4⟩ := h
  exact ⟨a, c, h1, h2, h3, h4.sub fun k _ hk => Nat.le_trans hB hk⟩
set_option maxRecDepth 20000 in
set_option maxHeartbeats 1600000 in
theorem refOne_c (T : Nat → Prop) (a : Option Addr) (cap : Nat) (rs : List Rn) (w : World) (hsm : smallR rs = true) (hc : rs.length ≤ cap) (hm : cap ≤ maxLen) (hr : InR w T a rs) :
    Calls Try.prog 17 #[.slice a rs.length cap] w fun e w' => ∃ u, e = .returned u ∧ PairsV w.heap.size (oneP (lens rs)) u w' ∧ Fr No w w' := by
  obtain ⟨hl, hs⟩ := smallR_le hsm
  unfold maxLen at hm
  have HC := Lib.hid hr
  have HSZ := Lib.hid hs
  have HT := Lib.hid (oneP_take rs)
  clear hr hs hsm
  unfold InR at HC
  obtain ⟨n, hn⟩ : ∃ n, rs.length = n := ⟨_, rfl⟩
  rw [hn] at hc hl HC
  rw [hn]
  have HN := Lib.hid hn
  clear hn
  go_enter Try.func17, Try.ntmps17
  go_wp2_with fail
  go_loopw [3, 4] (fun vo i wr => ∃ (j : Nat) (out : List P2), i = .int .i64 j ∧ j ≤ n ∧ out = oneP ((lens rs).take j) ∧ out.length ≤ 40 * j ∧ PairsV w.heap.size out vo wr ∧ Fr No w wr) (fun _ i _ => n - (intOf i).toNat)
  case atStart => exact ⟨0, [], rfl, Nat.zero_le _, rfl, Nat.le_refl _, ⟨none, 0, rfl, Nat.le_refl _, by unfold maxLen; omega, InP.nil _ _ _⟩, Fr.refl _ _⟩
  case round =>
    obtain ⟨j, out, rfl, hj, hout, hle, hpv, hfr⟩ := hrel
    have HOUT := Lib.hid hout
    have HPV := Lib.hid hpv
    have HF := Lib.hid hfr
    clear hout hpv hfr
    by_cases h1 : j < n
    · have d1 : decide ((j : Int) < (n : Int)) = true := by rw [decide_eq_true_eq]; omega
      obtain ⟨b, o, _, rfl, hx⟩ := HC.out (by omega)
      obtain ⟨x, hx0⟩ : ∃ x, rs[j]? = some x := ⟨_, List.getElem?_eq_getElem (by rw [HN.out]; exact h1)⟩
      have hxj := hx j x hx0
      have hx40 := HSZ.out x (List.mem_of_getElem? hx0)
      have HXJ := Lib.hid hxj
      have HSTEP := Lib.hid (HT.out j x hx0)
      have HLE := Lib.hid (fun k => oneRun_le (x.l.take k) out)
      have HRT := Lib.hid (fun k => oneRun_take out x.l k)
      have hxle := hxj.le
      have hxcm := hxj.cm
      obtain ⟨m, hm0⟩ : ∃ m, x.l.length = m := ⟨_, rfl⟩
      obtain ⟨xa, hxa⟩ : ∃ m, x.a = m := ⟨_, rfl⟩
      obtain ⟨xc, hxc⟩ : ∃ m, x.c = m := ⟨_, rfl⟩
      have HCELL : Hid (∀ W', Fr No w W' → W'.cell? ⟨b, o + j, none⟩ = some (.slice xa m xc) ∧ ∀ i, i < m → ∃ g p, xa = some ⟨g, p, none⟩ ∧ W'.cell? ⟨g, p + i * 2, none⟩ = some (.int .i64 (x.l.getD i p20).1) ∧ W'.cell? ⟨g, p + i * 2 + 1, none⟩ = some (.int .i64 (x.l.getD i p20).2)) := Lib.hid fun W' f => by
        refine ⟨?_, fun i hi => ?_⟩
        · rw [← hm0, ← hxa, ← hxc]
          exact f.cell HXJ.out.c0 (fun h => h)
        · obtain ⟨g, p, _, hg, hcl⟩ := HXJ.out.rd (by omega)
          exact ⟨g, p, by rw [← hxa]; exact hg, f.cell (hcl i (by omega)).1 (fun h => h), f.cell (hcl i (by omega)).2 (fun h => h)⟩
      rw [hm0, hxc] at hxle
      rw [hxc] at hxcm
      unfold maxLen at hxcm
      rw [hm0] at hx40
      have HM := Lib.hid hm0
      clear hx hx0 hxj hm0 hxa hxc
      go_wp2_with fail
      clear d1
      obtain ⟨wA, rfl⟩ : ∃ x, x = wr := ⟨_, rfl⟩
      go_loopw [3, 5] (fun vo i wq => ∃ (k : Nat) (o2 : List P2), i = .int .i64 k ∧ k ≤ m ∧ o2 = oneRun out (x.l.take k) ∧ PairsV w.heap.size o2 vo wq ∧ Fr No w wq) (fun _ i _ => m - (intOf i).toNat)
      case atStart => exact ⟨0, out, rfl, Nat.zero_le _, rfl, HPV.out, HF.out⟩
      case round =>
        obtain ⟨k, o2, rfl, hk, ho2, hpv2, hfr2⟩ := hrel
        have HO2 := Lib.hid ho2
        have HPV2 := Lib.hid hpv2
        have HF2 := Lib.hid hfr2
        have hl2 : o2.length ≤ 40 * j + k := by
          have := HLE.out k
          rw [← ho2, List.length_take] at this
          omega
        clear ho2 hpv2 hfr2
        obtain ⟨q0, hq⟩ := HCELL.out wr HF2.out
        by_cases h2 : k < m
        · have d2 : decide ((k : Int) < (m : Int)) = true := by rw [decide_eq_true_eq]; omega
          obtain ⟨g, p, rfl, q1, q2⟩ := hq k h2
          obtain ⟨oa, oc, rfl, ole, ocm, oin⟩ := HPV2.out
          have HOIN := Lib.hid oin
          have HRT2 := Lib.hid (HRT.out k (by rw [HM.out]; exact h2))
          have HHAS := Lib.hid (refHas_c _ oa oc o2 (x.l.getD k p20).1 wr (by omega) oin)
          have HPUT := Lib.hid (refPutP_c _ oa oc o2 (x.l.getD k p20).1 (x.l.getD k p20).2 wr (by omega) ole ocm oin)
          obtain ⟨ol, hol⟩ : ∃ z, o2.length = z := ⟨_, rfl⟩
          rw [hol] at HHAS HPUT
          rw [hol]
          have HOL := Lib.hid hol
          clear hq oin hol ole ocm
          cases hb : hasP o2 (x.l.getD k p20).1 with
          | true =>
            rw [hb] at HHAS
            have HS : Hid (oneRun out (x.l.take (k + 1)) = o2) := Lib.hid (by rw [HRT2.out, ← HO2.out]; unfold oneSt; rw [hb]; rfl)
            clear hb
            generalize (x.l.getD k p20).1 = kx at *
            generalize (x.l.getD k p20).2 = ky at *
            go_wp2_with fail
            refine HHAS.out.mono ?_
            rintro e w3 ⟨rfl, rfl⟩
            go_wp2_with fail
            go_roundw
            case rel => exact ⟨k + 1, o2, by simp, by omega, HS.out.symm, by rw [← HOL.out]; exact HPV2.out, HF2.out⟩
            case measure => simp [intOf]; omega
          | false =>
            rw [hb] at HHAS
            have HS : Hid (oneRun out (x.l.take (k + 1)) = insP ((x.l.getD k p20).1, (x.l.getD k p20).2) o2) := Lib.hid (by rw [HRT2.out, ← HO2.out]; unfold oneSt; rw [hb]; rfl)
            clear hb HRT2
            generalize (x.l.getD k p20).1 = kx at *
            generalize (x.l.getD k p20).2 = ky at *
            go_wp2_with fail
            refine HHAS.out.mono ?_
            rintro e w3 ⟨rfl, rfl⟩
            go_wp2_with fail
            refine HPUT.out.mono ?_
            rintro e w3 ⟨u, rfl, hu, f3⟩
            have HU := Lib.hid (hu.mono HF2.out.size)
            have HF3 := Lib.hid (HF2.out.trans f3)
            clear hu f3 q0 q1 q2
            go_wp2_with fail
            go_roundw
            case rel => exact ⟨k + 1, _, by simp, by omega, HS.out.symm, HU.out, HF3.out⟩
            case measure => simp [intOf]; omega
        · obtain rfl : k = m := by omega
          have d2 : decide ((k : Int) < (k : Int)) = false := by simp
          have HE : Hid (o2 = oneP ((lens rs).take (j + 1))) := Lib.hid (by
            have ho := HO2.out
            rw [← HM.out, List.take_length] at ho
            rw [HSTEP.out, ← HOUT.out]
            exact ho)
          clear hq
          go_wp2_with fail
          go_roundw
          case rel => exact ⟨j + 1, o2, by simp, by omega, HE.out, by omega, HPV2.out, HF2.out⟩
          case measure => simp [intOf]; omega
    · obtain rfl : j = n := by omega
      have d1 : decide ((j : Int) < (j : Int)) = false := by simp
      have HE : Hid (PairsV w.heap.size (oneP (lens rs)) _ wr) := Lib.hid (by
        have := HPV.out
        rw [HOUT.out, List.take_of_length_le (by unfold lens; rw [List.length_map, HN.out]; exact Nat.le_refl _)] at this
        exact this)
      go_wp2_with fail
      go_ret
      exact ⟨_, rfl, HE.out, HF.out⟩
end Go.Proofs.Ytkcgdmhggndhfaa
