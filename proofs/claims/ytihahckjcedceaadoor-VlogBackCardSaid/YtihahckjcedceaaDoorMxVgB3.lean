/-
  The walk of the statement VlogBack.
-/
import Derived.Test.YtihahckjcedceaaDoorMxVgB2
import Derived.Test.YtihahckjcedceaaDoorMxVgLi
import Derived.BigQuiet
import Derived.Deep.RegionHeld3
import Derived.Deep.QuietTactic
namespace Go.Proofs.YtihahckjcedceaaDoor
set_option linter.unusedVariables false
set_option linter.unusedSimpArgs false
open Go.RowKit

def vlP (y : Vl) : P3 := (y.z, y.t, y.n)
theorem OwnL.pointer_q {W w : World} {K : Nat → Prop} {g d : Nat} {v : Value} {zs : List Int} {m : Dev} (h : OwnL W K w g d v zs m) (hw : WF m) (z : Int) (n : Nat) :
    Calls Tryd.prog 26 #[.pointer (some ⟨d, 0, none⟩), .int .i64 z] (w.drewN n) fun e w' => e = .returned (.int .i64 (ptrM m z)) ∧ ∃ k, w' = w.drewN k :=
  ((h.no ((Fr.refl No w).drewN n)).pointer hw z).mono fun e w' ⟨a, b⟩ => ⟨a, n, b.symm⟩
theorem ptNeq (a b c : Int) (w : World) : (binOp .neq 23 (.agg #[.int .i64 a, .int .i64 b, .int .i64 c]) (.agg #[.int .i64 a, .int .i64 b, .int .i64 c])).run Tryd.prog w = .ok (.bool false) w := by
  go_simp
theorem back_at {m : Dev} {nx : Nat} {zs : List Int} {S : Int → List Ent} (h : BkI m nx zs S) : (allV S).length = (allE S).length ∧ ∀ j, j < (allE S).length → ∃ y : Vl, (allV S).getD j vl0 = y ∧ ((allV S).map vlP).getD j p30 = (y.z, y.t, y.n) ∧ y.x = eKy ((allE S).getD j ent0) ∧ y.s = ((allE S).getD j ent0).val ∧
    vgetR m y.z y.t y.n (eKy ((allE S).getD j ent0)) = (((allE S).getD j ent0).val, 0) ∧ vgetR m y.z y.t y.n ⟨((allE S).getD j ent0).u, ((allE S).getD j ent0).q + 1, ((allE S).getD j ent0).k⟩ = (⟨#[]⟩, 140) ∧ 0 ≤ ((allE S).getD j ent0).q ∧ ((allE S).getD j ent0).q ≤ 1099511627776 := by
  have hl : (allV S).length = (allE S).length := by have := congrArg List.length h.same; simpa using this
  refine ⟨hl, fun j hj => ⟨_, rfl, ?_, ?_⟩⟩
  · rw [List.getD_eq_getElem?_getD, List.getElem?_map, List.getD_eq_getElem?_getD, List.getElem?_eq_getElem (by omega)]
    rfl
  · have e := congrArg (fun l => l[j]?) h.same
    simp only [List.getElem?_map] at e
    rw [List.getElem?_eq_getElem (by omega), List.getElem?_eq_getElem hj] at e
    simp only [Option.map_some, Option.some.injEq] at e
    unfold vlT enT at e
    rw [Prod.mk.injEq] at e
    have hm := h.mem (List.getElem_mem (show j < (allV S).length by omega))
    rw [List.getD_eq_getElem?_getD, List.getD_eq_getElem?_getD, List.getElem?_eq_getElem (by omega), List.getElem?_eq_getElem hj]
    simp only [Option.getD_some]
    obtain ⟨h1, h2, h3⟩ := hm
    rw [e.1] at h1 h2 h3
    rw [e.2] at h2
    exact ⟨e.1, e.2, h2, h3, h1.2.2.1, h1.2.2.2.1⟩
set_option maxRecDepth 100000 in
set_option maxHeartbeats 25600000 in
theorem vlogBack_walk (W : World) (ht : Tab W) (a : Option Addr) (cap : Nat) (l : List Ent) (hc : l.length ≤ cap) (hm : cap ≤ maxLen) (hi : Ents W (fun _ => True) a l) (wf : ∀ x ∈ l, EntWf x) :
    Calls Tryd.prog 5 #[.slice a l.length cap] W fun e W' => e = .returned (.bool true) ∧ Below W.heap.size W W' := by
  refine Calls.mono (R := PlainRet (.bool true) W) ?_ fun e w' h => h.below
  have hlm := Nat.le_trans hc hm
  have HT := Lib.hid ht
  have HI := Lib.hid hi
  have CD := Lib.hid (device14_c W)
  have CA := Lib.hid (fun (w : World) (f : Fr No W w) => awake14_c w (ht.keep f (fun h => h)))
  have CSM := Lib.hid (fun (w : World) (f : Fr No W w) => small14_c a l.length cap l (fun _ => True) w rfl hlm (hi.keep f (fun _ _ h => h)))
  have HPN : ∀ (b : Nat) (w : World), (binOp .eql 36 (.pointer (some ⟨b, 0, none⟩)) (.pointer none)).run Tryd.prog w = .ok (.bool false) w := fun _ _ => rfl
  have HPM : ∀ (b : Nat) (w : World), (binOp .neq 36 (.pointer (some ⟨b, 0, none⟩)) (.pointer none)).run Tryd.prog w = .ok (.bool true) w := fun _ _ => rfl
  have HPL : ∀ (b : Nat) (w : World), (binOp .eql 39 (.pointer (some ⟨b, 0, none⟩)) (.pointer none)).run Tryd.prog w = .ok (.bool false) w := fun _ _ => rfl
  obtain ⟨ln, hln⟩ : ∃ k, l.length = k := ⟨_, rfl⟩
  have HLN := Lib.hid hln
  rw [hln] at CSM hlm hc
  rw [hln]
  unfold maxLen at hlm hm
  have HSMI := Lib.hid (show decide (Small14 l) = true → ln ≤ 40 ∧ ∀ x ∈ l, x.val.size ≤ 500 from fun h => ⟨by rw [← hln]; exact (of_decide_eq_true h).2, fun x hx => ((of_decide_eq_true h).1 x hx).2⟩)
  clear ht hi wf hln
  generalize decide (Small14 l) = sm at *
  cases sm with
  | false =>
    go_enter Tryd.func5, Tryd.ntmps5
    go_wp2_with fail
    refine (show Calls _ _ _ _ _ from CD.out).mono ?_
    rintro e w1 ⟨d, F, rfl, hd, hF, hf1⟩
    have HF1 := Lib.hid hf1
    clear hd hF hf1
    go_wp2_with fail
    refine (CSM.out w1 HF1.out).mono ?_
    rintro e w2 ⟨rfl, hf2⟩
    have HF2 := Lib.hid (HF1.out.trans hf2)
    clear hf2
    go_wp2_with fail
    refine (CA.out _ HF2.out).mono ?_
    rintro e w3 ⟨rfl, hf⟩
    have HF3 := Lib.hid (HF2.out.trans hf)
    clear hf
    go_wp2_with fail
    go_ret
    exact ⟨rfl, HF3.out⟩
  | true =>
    obtain ⟨hl40, hv500⟩ := HSMI.out rfl
    have HV500 := Lib.hid hv500
    have HB0 := Lib.hid BkI.start
    have HD0 : Hid ((newM 4 400 4).done ≤ 0) := Lib.hid (by decide)
    clear hv500 HSMI
    generalize newM 4 400 4 = m0 at *
    go_enter Tryd.func5, Tryd.ntmps5
    go_wp2_with fail
    refine (show Calls _ _ _ _ _ from CD.out).mono ?_
    rintro e w1 ⟨d, F, rfl, hd, hF, hf1⟩
    have HF1 := Lib.hid hf1
    have HD := Lib.hid hd
    have HFF := Lib.hid hF
    clear hd hF hf1
    go_wp2_with fail
    refine (CSM.out w1 HF1.out).mono ?_
    rintro e w2 ⟨rfl, hf2⟩
    have HF2 := Lib.hid (HF1.out.trans hf2)
    have HD := Lib.hid (HD.out.keep hf2 (fun _ _ h => h))
    have CN := Lib.hid (own_new (W := W) HD.out HFF.out HF2.out none 0 0 [] rfl (by omega) (fun h => absurd h (by simp)))
    clear hf2 HD HFF HF1 CD CSM
    go_wp2_with fail
    refine (show Calls _ _ _ _ _ from CN.out).mono ?_
    rintro e w4 ⟨g, v, rfl, ho⟩
    have HL4 := Lib.hid (LoJ.start ho)
    clear ho CN HF2
    go_wp2_with fail
    go_loopw [5, 6, 7, 45] (fun u p nxv i wr => ∃ (j nx : Nat) (K : Nat → Prop) (v : Value) (zs : List Int) (m : Dev) (S : Int → List Ent), i = .int .i64 j ∧ nxv = .int .i64 nx ∧ j ≤ ln ∧ LoJ W K wr g d v zs m u (allE S) p ((allV S).map vlP) ∧ BkI m nx zs S ∧ m.done ≤ j ∧ (allE S).length ≤ j) (fun _ _ _ i _ => ln - (intOf i).toNat)
    case atStart => exact ⟨0, 0, No, v, [], m0, fun _ => [], rfl, rfl, Nat.zero_le _, HL4.out, HB0.out, HD0.out, Nat.zero_le _⟩
    case round =>
      clear HL4 HB0 HD0
      obtain ⟨j, nx, K, v, zs, m, S, rfl, rfl, hj, hli, hbk, hdn, hul⟩ := hrel
      have HLI := Lib.hid hli
      have HBK := Lib.hid hbk
      have HDN := Lib.hid hdn
      have HUL := Lib.hid hul
      have hn4 := hbk.n4
      have HVL := Lib.hid (show ((allV S).map vlP).length = (allE S).length by rw [List.length_map]; exact (back_at hbk).1)
      obtain ⟨ua, uc, rfl, _, _, _⟩ := hli.ri.ents
      obtain ⟨pa, pc, rfl, _, _, _⟩ := hli.rp.pts
      rw [HVL.out] at HLI ⊢
      obtain ⟨un, hun⟩ : ∃ n, (allE S).length = n := ⟨_, rfl⟩
      have HUN := Lib.hid hun
      rw [hun] at HLI HUL HVL
      rw [hun]
      clear hli hbk hdn hul hun
      by_cases h1 : j < ln
      · have d1 : decide ((j : Int) < (ln : Int)) = true := by rw [decide_eq_true_eq]; omega
        have hjl : j < l.length := by rw [HLN.out]; exact h1
        obtain ⟨b, o, _, rfl, hcell⟩ := HI.out (by omega)
        have hy := (hcell j hjl).keep HLI.out.ow.fr (fun h => h)
        obtain ⟨y, hye⟩ : ∃ y, l.getD j ent0 = y := ⟨_, rfl⟩
        have hyv := HV500.out _ (getD_memE l j hjl)
        rw [hye] at hy hyv
        obtain ⟨y0, y1, y2, y3⟩ := hy
        obtain ⟨w5, hw5⟩ : ∃ w, wr.alloc (.cells #[.string y.u, .int .i64 y.q, .int .i64 y.k, .string y.val] 45) = w := ⟨_, rfl⟩
        have A5 : At w5 wr.heap.size 45 #[.string y.u, .int .i64 y.q, .int .i64 y.k, .string y.val] := by rw [← hw5]; exact At.new _ _ _
        have f5 : Fr No wr w5 := by rw [← hw5]; exact (Fr.refl No wr).alloc _
        have HL5 := Lib.hid (HLI.out.new f5)
        have HKB : Hid (Gr K wr w5 wr.heap.size) := Lib.hid (.inr ⟨Nat.le_refl _, by rw [← hw5]; simp⟩)
        have HNU : Hid (∀ k, (Value.slice ua un uc).ownBlock = some k → k < wr.heap.size) := Lib.hid fun k hk => HLI.out.ow.low k (HLI.out.ui k hk)
        have HNP : Hid (∀ k, (Value.slice pa un pc).ownBlock = some k → k < wr.heap.size) := Lib.hid fun k hk => HLI.out.ow.low k (HLI.out.pi k hk)
        have b0 := A5.cell 0
        have b1 := A5.cell 1
        have b2 := A5.cell 2
        have b3 := A5.cell 3
        simp at b0 b1 b2 b3
        have HS5 : Hid (wr.heap.size ≤ w5.heap.size) := Lib.hid f5.size
        generalize Gr K wr w5 = K5 at *
        have CREF := Lib.hid (fun (w : World) => ref14_c (eKy y) w)
        have CRT := Lib.hid (fun (w : World) => right14_c (eKy y) w)
        have HBL := Lib.hid hcell
        clear A5 f5 hcell hjl hye HLI
        by_cases hrt : (eKy y).rt
        · rw [decide_eq_true hrt] at CRT
          have hx : RtE y := ⟨hrt, hyv⟩
          have HX := Lib.hid hx
          have CRC := Lib.hid (fun (w : World) => refRecord_c (eKy y) y.val w hrt (by omega))
          have CVS := Lib.hid (fun (w : World) => vsize_yes (eKy y) y.val w hrt (by omega))
          have hrl := recB_len hrt (v := y.val) (by omega)
          have hpos := sizeL_pos (recB (eKy y) y.val).length
          have hsl := sizeL_le (n := (recB (eKy y) y.val).length) (by omega)
          have CZ := Lib.hid (fun (w : World) => fsize_c (recB (eKy y) y.val).length w (by omega))
          have CPUT := Lib.hid (fun (w : World) (v : Value) (zs : List Int) (h : OwnL W K5 w g d v zs m) (hz : zs.length ≤ 1000000) => h.putY HBK.out.wf (by have := HDN.out; omega) hz HT.out (eKy y) y.val hrt (by omega))
          obtain ⟨R, hR⟩ : ∃ R, recB (eKy y) y.val = R := ⟨_, rfl⟩
          have HR := Lib.hid hR
          obtain ⟨rn, hrn⟩ : ∃ n, (recB (eKy y) y.val).length = n := ⟨_, rfl⟩
          obtain ⟨Z, hZ⟩ : ∃ n, sizeL (recB (eKy y) y.val).length = n := ⟨_, rfl⟩
          rw [hZ] at CVS CZ hpos hsl
          rw [hrn] at CZ hpos hsl hrl
          rw [hR] at CRC CPUT hrn hZ
          have HRN := Lib.hid hrn
          have HZ := Lib.hid hZ
          unfold kyV eKy at CREF CRT CRC CVS CPUT
          simp only at CREF CRT CRC CVS CPUT
          clear hrt hx hR hrn hZ
          go_wp2_with fail
          try rw [hw5]
          try go_wp2_with fail
          refine (CREF.out _).mono ?_
          rintro e w6 ⟨rfl, hf6⟩
          have HL6 := Lib.hid (HL5.out.no hf6)
          have b0 := hf6.cell b0 (fun h => h)
          have b1 := hf6.cell b1 (fun h => h)
          have b2 := hf6.cell b2 (fun h => h)
          have b3 := hf6.cell b3 (fun h => h)
          have HS6 : Hid (wr.heap.size ≤ w6.heap.size) := Lib.hid (Nat.le_trans HS5.out hf6.size)
          clear hf6 HL5
          go_wp2_with fail
          refine (CRT.out _).mono ?_
          rintro e w7 ⟨rfl, hf7⟩
          have HL7 := Lib.hid (HL6.out.no hf7)
          have b0 := hf7.cell b0 (fun h => h)
          have b1 := hf7.cell b1 (fun h => h)
          have b2 := hf7.cell b2 (fun h => h)
          have b3 := hf7.cell b3 (fun h => h)
          have HS7 : Hid (wr.heap.size ≤ w7.heap.size) := Lib.hid (Nat.le_trans HS6.out hf7.size)
          clear hf7 HL6 CRT
          go_wp2_with fail
          go_region_held3 (fun w' => w'.cell? ⟨wr.heap.size, 0, none⟩ = some (.string y.u) ∧ w'.cell? ⟨wr.heap.size, 1, none⟩ = some (.int .i64 y.q) ∧ w'.cell? ⟨wr.heap.size, 2, none⟩ = some (.int .i64 y.k) ∧ w'.cell? ⟨wr.heap.size, 3, none⟩ = some (.string y.val)) (first | assumption | go_keep)
            (first
              | (go_at_call 19; refine (CREF.out _).mono ?_; rintro e w8 ⟨rfl, hf⟩
                 have b0 := hf.cell (p := ⟨wr.heap.size, 0, none⟩) (v := .string y.u) b0 (fun h => h)
                 have b1 := hf.cell (p := ⟨wr.heap.size, 1, none⟩) (v := .int .i64 y.q) b1 (fun h => h)
                 have b2 := hf.cell (p := ⟨wr.heap.size, 2, none⟩) (v := .int .i64 y.k) b2 (fun h => h)
                 have b3 := hf.cell (p := ⟨wr.heap.size, 3, none⟩) (v := .string y.val) b3 (fun h => h)
                 have HF8 := Lib.hid ((Fr.refl No w7).drew.trans hf)
                 clear hf)
              | (go_at_call 22; refine (CRC.out _).mono ?_; rintro e w9 ⟨rv, rfl, rrow, hf⟩
                 obtain ⟨r1, r2, rfl, _, _, _⟩ := rrow.form
                 rw [HRN.out]
                 have b0 := hf.cell (p := ⟨wr.heap.size, 0, none⟩) (v := .string y.u) b0 (fun h => h)
                 have b1 := hf.cell (p := ⟨wr.heap.size, 1, none⟩) (v := .int .i64 y.q) b1 (fun h => h)
                 have b2 := hf.cell (p := ⟨wr.heap.size, 2, none⟩) (v := .int .i64 y.k) b2 (fun h => h)
                 have b3 := hf.cell (p := ⟨wr.heap.size, 3, none⟩) (v := .string y.val) b3 (fun h => h)
                 have HF9 := Lib.hid (HF8.out.trans hf)
                 clear hf rrow))
          have HL9 := Lib.hid (HL7.out.no HF9.out)
          have HS9 : Hid (wr.heap.size ≤ w9.heap.size) := Lib.hid (Nat.le_trans HS7.out HF9.out.size)
          clear HF8 HF9 HL7 CRC CREF
          go_wp2_with fail
          refine (CZ.out _).mono ?_
          rintro e w' ⟨rfl, rfl⟩
          go_wp2_with fail
          refine (CVS.out _).mono ?_
          rintro e w10 ⟨rfl, hf⟩
          have HL10 := Lib.hid (HL9.out.no hf)
          have b0 := hf.cell b0 (fun h => h)
          have b1 := hf.cell b1 (fun h => h)
          have b2 := hf.cell b2 (fun h => h)
          have b3 := hf.cell b3 (fun h => h)
          have HS10 : Hid (wr.heap.size ≤ w10.heap.size) := Lib.hid (Nat.le_trans HS9.out hf.size)
          have CRM := Lib.hid (HL10.out.ow.room HBK.out.wf (by rw [HBK.out.zl]; omega))
          clear hf HL9 CVS CZ
          have hrm0 : nx = 0 → roomL m zs = 0 := fun h => by
            subst h
            exact HBK.out.room0
          have HRM0 := Lib.hid hrm0
          obtain ⟨rm, hrm⟩ : ∃ r, roomL m zs = r := ⟨_, rfl⟩
          have HRM := Lib.hid hrm
          rw [hrm] at CRM HRM0
          have hrm0 := HRM0.out
          clear hrm
          go_wp2_with fail
          refine (show Calls _ _ _ _ _ from CRM.out).mono ?_
          rintro e w11 ⟨rfl, _, hf⟩
          have HL11 := Lib.hid (HL10.out.no hf)
          have b0 := hf.cell b0 (fun h => h)
          have b1 := hf.cell b1 (fun h => h)
          have b2 := hf.cell b2 (fun h => h)
          have b3 := hf.cell b3 (fun h => h)
          have HS11 : Hid (wr.heap.size ≤ w11.heap.size) := Lib.hid (Nat.le_trans HS10.out hf.size)
          clear hf HL10 CRM
          by_cases hg : rm < (Z : Int)
          · have dg : decide (rm < (Z : Int)) = true := decide_eq_true hg
            by_cases hx4 : nx < 4
            · have dx : decide ((nx : Int) < 4) = true := decide_eq_true (by omega)
              obtain ⟨hok, hbg⟩ := HBK.out.grow hx4
              have CGR := Lib.hid (HL11.out.ow.grow HBK.out.wf (by rw [HBK.out.zl]; omega) (nx : Int) hok)
              have HBG := Lib.hid hbg
              clear hok hbg HRM HRM0 hrm0 HBK
              go_wp2_with fail
              refine (show Calls _ _ _ _ _ from CGR.out).mono ?_
              rintro e w12 ⟨rfl, v2, ho, hf⟩
              have HLR := Lib.hid (HL11.out.call ho hf)
              have b0 := hf.cell b0 (fun hn => hn HKB.out)
              have b1 := hf.cell b1 (fun hn => hn HKB.out)
              have b2 := hf.cell b2 (fun hn => hn HKB.out)
              have b3 := hf.cell b3 (fun hn => hn HKB.out)
              have HSR : Hid (wr.heap.size ≤ w12.heap.size) := Lib.hid (Nat.le_trans HS11.out hf.size)
              have CRM := Lib.hid (HLR.out.ow.room HBG.out.wf (by rw [HBG.out.zl]; omega))
              clear ho hf CGR HL11
              generalize zs ++ [(nx : Int)] = zs2 at *
              obtain ⟨nx2, hnx2⟩ : ∃ k, nx + 1 = k := ⟨_, rfl⟩
              rw [hnx2] at HBG
              have hn0 : 0 < nx2 := by omega
              have hn2 : (nx : Int) + 1 = (nx2 : Int) := by omega
              clear hnx2
              obtain ⟨rm2, hrm2⟩ : ∃ r, roomL m zs2 = r := ⟨_, rfl⟩
              have HPUT := Lib.hid (HBG.out.put hn0 HX.out HR.out HZ.out)
              have HDX := Lib.hid (Nat.le_trans (done_appDv m zs2 R) (Nat.succ_le_succ HDN.out))
              rw [hrm2] at CRM HPUT
              obtain ⟨zl, hzl⟩ : ∃ z : Int, ((nx2 : Nat) : Int) - 1 = z := ⟨_, rfl⟩
              have hn4' : nx2 ≤ 4 := HBG.out.n4
              have hzwr : IntKind.i64.wrap (((nx2 : Nat) : Int) - 1) = zl := by
                rw [← hzl]
                simp [IntKind.wrap, IntKind.signed, IntKind.bits]
                omega
              rw [hzl] at HPUT
              have HZL := Lib.hid hzl
              have HZS : Hid (zs2.length ≤ 1000000) := Lib.hid (by rw [HBG.out.zl]; omega)
              clear hzl hrm2
              go_wp2_with fail
              refine (show Calls _ _ _ _ _ from CRM.out).mono ?_
              rintro e w13 ⟨rfl, _, hf⟩
              have HL13 := Lib.hid (HLR.out.no hf)
              have b0 := hf.cell b0 (fun h => h)
              have b1 := hf.cell b1 (fun h => h)
              have b2 := hf.cell b2 (fun h => h)
              have b3 := hf.cell b3 (fun h => h)
              have HS13 : Hid (wr.heap.size ≤ w13.heap.size) := Lib.hid (Nat.le_trans HSR.out hf.size)
              have CP := Lib.hid (CPUT.out w13 v2 zs2 HL13.out.ow HZS.out)
              clear hf HLR CRM CPUT
              rcases HPUT.out with ⟨⟨pe, hpe, hpt⟩, hlt, hbk2⟩ | ⟨t, hpt, hle, hptr, hbk2, hae, hav⟩
              · rw [hpt] at CP
                have HB2 := Lib.hid hbk2
                generalize appDv m zs2 R = m2 at *
                unfold ptV at CP
                simp only at CP
                have e1 : (pe == 0) = false := by rw [beq_eq_false_iff_ne]; exact hpe
                have e2 : (pe != 0) = true := by rw [bne_iff_ne]; exact hpe
                have e3 : decide ((Z : Int) ≤ rm2) = false := by rw [decide_eq_false_iff_not]; omega
                clear hpe hpt hlt hbk2 HPUT
                go_wp2_with fail
                refine (show Calls _ _ _ _ _ from CP.out).mono ?_
                rintro e w14 ⟨rfl, ho, hf⟩
                have HL14 := Lib.hid (HL13.out.call ho hf)
                have f15 := (Fr.refl No w14).alloc (.cells #[.int .i64 0, .int .i64 0, .int .i64 0] 23)
                have HL15 := Lib.hid (HL14.out.no f15)
                clear ho hf f15 HL14 HL13 CP
                go_wp2_with fail
                go_roundw
                case rel => exact ⟨j + 1, nx2, K5, v2, zs2, m2, S, by simp, rfl, by omega, by rw [HUN.out, HVL.out] at *; exact HL15.out, HB2.out, HDX.out, by rw [HUN.out]; exact Nat.le_succ_of_le HUL.out⟩
                case measure => simp [intOf]; omega
              · rw [hpt] at CP
                have HB2 := Lib.hid hbk2
                have HAE := Lib.hid hae
                have HAV := Lib.hid hav
                generalize appDv m zs2 R = m2 at *
                unfold ptV at CP
                simp only [HRN.out] at CP
                have e3 : decide ((Z : Int) ≤ rm2) = true := by rw [decide_eq_true_eq]; omega
                clear hpt hle hbk2 hae hav HPUT
                go_wp2_with fail
                refine (show Calls _ _ _ _ _ from CP.out).mono ?_
                rintro e w14 ⟨rfl, ho, hf⟩
                have HL14 := Lib.hid (HL13.out.call ho hf)
                have b0 := hf.cell b0 (fun hn => hn HKB.out)
                have b1 := hf.cell b1 (fun hn => hn HKB.out)
                have b2 := hf.cell b2 (fun hn => hn HKB.out)
                have b3 := hf.cell b3 (fun hn => hn HKB.out)
                have HS14 : Hid (wr.heap.size ≤ w14.heap.size) := Lib.hid (Nat.le_trans HS13.out hf.size)
                obtain ⟨w15, hw15⟩ : ∃ w, w14.alloc (.cells #[.int .i64 zl, .int .i64 t, .int .i64 (rn : Int)] 23) = w := ⟨_, rfl⟩
                have f15 : Fr No w14 w15 := by rw [← hw15]; exact (Fr.refl No w14).alloc _
                have P15 : At w15 w14.heap.size 23 #[.int .i64 zl, .int .i64 t, .int .i64 (rn : Int)] := by rw [← hw15]; exact At.new _ _ _
                have p0 := P15.cell 0
                have p1 := P15.cell 1
                have p2 := P15.cell 2
                simp at p0 p1 p2
                have HL15 := Lib.hid (HL14.out.no f15)
                have b0 := f15.cell b0 (fun h => h)
                have b1 := f15.cell b1 (fun h => h)
                have b2 := f15.cell b2 (fun h => h)
                have b3 := f15.cell b3 (fun h => h)
                have CPQ := Lib.hid (HL15.out.ow.pointer_q HB2.out.wf zl)
                obtain ⟨P, hP⟩ : ∃ P, ptrM m2 zl = P := ⟨_, rfl⟩
                have hP64 : 0 ≤ P ∧ P ≤ 65536 := by
                  rw [← hP]
                  unfold ptrM
                  have := (zoneM_ok HB2.out.wf zl).l
                  have := HB2.out.wf.s64
                  split <;> omega
                rw [hP] at CPQ hptr
                have hpw : IntKind.i64.wrap (P - (Z : Int)) = t := by
                  rw [← hptr]
                  simp [IntKind.wrap, IntKind.signed, IntKind.bits]
                  omega
                have z1 : (zl != zl) = false := by simp
                have z2 : ((rn : Int) != (rn : Int)) = false := by simp
                have z3 : (t != t) = false := by simp
                clear ho hf f15 P15 HL14 HL13 CP hptr hP
                go_wp2_with fail
                try rw [hw15]
                try go_wp2_with fail
                go_quiet (first | exact CPQ.out _)
                clear CPQ hzwr hpw
                obtain ⟨w16, hw16⟩ : ∃ w, w15.drewN nq = w := ⟨_, rfl⟩
                rw [hw16]
                have f16 : Fr No w15 w16 := by rw [← hw16]; exact (Fr.refl No w15).drewN _
                have HL16 := Lib.hid (HL15.out.no f16)
                have b0 := f16.cell b0 (fun h => h)
                have b1 := f16.cell b1 (fun h => h)
                have b2 := f16.cell b2 (fun h => h)
                have b3 := f16.cell b3 (fun h => h)
                have p0 := f16.cell p0 (fun h => h)
                have p1 := f16.cell p1 (fun h => h)
                have p2 := f16.cell p2 (fun h => h)
                obtain ⟨u', w17, hrun, hl17, hf17⟩ := HL16.out.pushI y HUN.out (by have := HUL.out; omega)
                have HRUN := Lib.hid hrun
                have p0 := hf17.cell p0 (fun hu => by have h1 : w14.heap.size < wr.heap.size := HNU.out _ hu; have := HS14.out; omega)
                have p1 := hf17.cell p1 (fun hu => by have h1 : w14.heap.size < wr.heap.size := HNU.out _ hu; have := HS14.out; omega)
                have p2 := hf17.cell p2 (fun hu => by have h1 : w14.heap.size < wr.heap.size := HNU.out _ hu; have := HS14.out; omega)
                obtain ⟨p', w18, hrun2, hl18, hf18⟩ := hl17.pushP (zl, t, (rn : Int)) HVL.out (by have := HUL.out; omega)
                have HRUN2 := Lib.hid hrun2
                have HFIN : Hid (∃ K' : Nat → Prop, LoJ W K' w18 g d v2 zs2 m2 u' (allE (putS S zl y)) p' ((allV (putS S zl y)).map vlP)) := Lib.hid ⟨_, by
                  rw [HAE.out, HAV.out, List.map_append]
                  have e : [(⟨eKy y, y.val, zl, t, (R.length : Int)⟩ : Vl)].map vlP = [(zl, t, (rn : Int))] := by rw [HRN.out]; rfl
                  rw [e]
                  exact hl18⟩
                have HLEN : Hid ((allE (putS S zl y)).length ≤ j + 1) := Lib.hid (by rw [HAE.out, List.length_append, HUN.out]; have := HUL.out; simp; omega)
                obtain ⟨va, vn, vc, rfl⟩ : ∃ a n c, u' = .slice a n c := by
                  obtain ⟨a, c, h, _⟩ := hl17.ri.ents
                  exact ⟨a, _, c, h⟩
                obtain ⟨xa, xn, xc, rfl⟩ : ∃ a n c, p' = .slice a n c := by
                  obtain ⟨a, c, h, _⟩ := hl18.rp.pts
                  exact ⟨a, _, c, h⟩
                clear hrun hrun2 hl17 hl18 hf17 hf18 f16 HL16 HL15 hw16 HAE HAV
                go_wp2_with (at_builtin; first | refine wpList_append_run rfl _ _ 35 rfl rfl rfl HRUN.out ?_ | refine wpList_append_run rfl _ _ 41 rfl rfl rfl HRUN2.out ?_)
                go_roundw
                case rel =>
                  obtain ⟨K', hK'⟩ := HFIN.out
                  exact ⟨j + 1, nx2, K', v2, zs2, m2, putS S zl y, by simp, rfl, by omega, hK', HB2.out, HDX.out, HLEN.out⟩
                case measure => simp [intOf]; omega
            · have dx : decide ((nx : Int) < 4) = false := decide_eq_false (by omega)
              have hn0 : 0 < nx := by omega
              have HLR := Lib.hid HL11.out
              have HBG := Lib.hid HBK.out
              have HSR := Lib.hid HS11.out
              have CRM := Lib.hid (HL11.out.ow.room HBK.out.wf (by rw [HBK.out.zl]; omega))
              clear HL11 HRM HRM0 hrm0
              obtain ⟨rm2, hrm2⟩ : ∃ r, roomL m zs = r := ⟨_, rfl⟩
              have HPUT := Lib.hid (HBG.out.put hn0 HX.out HR.out HZ.out)
              have HDX := Lib.hid (Nat.le_trans (done_appDv m zs R) (Nat.succ_le_succ HDN.out))
              rw [hrm2] at CRM HPUT
              obtain ⟨zl, hzl⟩ : ∃ z : Int, ((nx : Nat) : Int) - 1 = z := ⟨_, rfl⟩
              have hn4' : nx ≤ 4 := HBG.out.n4
              have hzwr : IntKind.i64.wrap (((nx : Nat) : Int) - 1) = zl := by
                rw [← hzl]
                simp [IntKind.wrap, IntKind.signed, IntKind.bits]
                omega
              rw [hzl] at HPUT
              have HZL := Lib.hid hzl
              have HZS : Hid (zs.length ≤ 1000000) := Lib.hid (by rw [HBG.out.zl]; omega)
              clear hzl hrm2
              go_wp2_with fail
              refine (show Calls _ _ _ _ _ from CRM.out).mono ?_
              rintro e w13 ⟨rfl, _, hf⟩
              have HL13 := Lib.hid (HLR.out.no hf)
              have b0 := hf.cell b0 (fun h => h)
              have b1 := hf.cell b1 (fun h => h)
              have b2 := hf.cell b2 (fun h => h)
              have b3 := hf.cell b3 (fun h => h)
              have HS13 : Hid (wr.heap.size ≤ w13.heap.size) := Lib.hid (Nat.le_trans HSR.out hf.size)
              have CP := Lib.hid (CPUT.out w13 v zs HL13.out.ow HZS.out)
              clear hf HLR CRM CPUT
              rcases HPUT.out with ⟨⟨pe, hpe, hpt⟩, hlt, hbk2⟩ | ⟨t, hpt, hle, hptr, hbk2, hae, hav⟩
              · rw [hpt] at CP
                have HB2 := Lib.hid hbk2
                generalize appDv m zs R = m2 at *
                unfold ptV at CP
                simp only at CP
                have e1 : (pe == 0) = false := by rw [beq_eq_false_iff_ne]; exact hpe
                have e2 : (pe != 0) = true := by rw [bne_iff_ne]; exact hpe
                have e3 : decide ((Z : Int) ≤ rm2) = false := by rw [decide_eq_false_iff_not]; omega
                clear hpe hpt hlt hbk2 HPUT
                go_wp2_with fail
                refine (show Calls _ _ _ _ _ from CP.out).mono ?_
                rintro e w14 ⟨rfl, ho, hf⟩
                have HL14 := Lib.hid (HL13.out.call ho hf)
                have f15 := (Fr.refl No w14).alloc (.cells #[.int .i64 0, .int .i64 0, .int .i64 0] 23)
                have HL15 := Lib.hid (HL14.out.no f15)
                clear ho hf f15 HL14 HL13 CP
                go_wp2_with fail
                go_roundw
                case rel => exact ⟨j + 1, nx, K5, v, zs, m2, S, by simp, rfl, by omega, by rw [HUN.out, HVL.out] at *; exact HL15.out, HB2.out, HDX.out, by rw [HUN.out]; exact Nat.le_succ_of_le HUL.out⟩
                case measure => simp [intOf]; omega
              · rw [hpt] at CP
                have HB2 := Lib.hid hbk2
                have HAE := Lib.hid hae
                have HAV := Lib.hid hav
                generalize appDv m zs R = m2 at *
                unfold ptV at CP
                simp only [HRN.out] at CP
                have e3 : decide ((Z : Int) ≤ rm2) = true := by rw [decide_eq_true_eq]; omega
                clear hpt hle hbk2 hae hav HPUT
                go_wp2_with fail
                refine (show Calls _ _ _ _ _ from CP.out).mono ?_
                rintro e w14 ⟨rfl, ho, hf⟩
                have HL14 := Lib.hid (HL13.out.call ho hf)
                have b0 := hf.cell b0 (fun hn => hn HKB.out)
                have b1 := hf.cell b1 (fun hn => hn HKB.out)
                have b2 := hf.cell b2 (fun hn => hn HKB.out)
                have b3 := hf.cell b3 (fun hn => hn HKB.out)
                have HS14 : Hid (wr.heap.size ≤ w14.heap.size) := Lib.hid (Nat.le_trans HS13.out hf.size)
                obtain ⟨w15, hw15⟩ : ∃ w, w14.alloc (.cells #[.int .i64 zl, .int .i64 t, .int .i64 (rn : Int)] 23) = w := ⟨_, rfl⟩
                have f15 : Fr No w14 w15 := by rw [← hw15]; exact (Fr.refl No w14).alloc _
                have P15 : At w15 w14.heap.size 23 #[.int .i64 zl, .int .i64 t, .int .i64 (rn : Int)] := by rw [← hw15]; exact At.new _ _ _
                have p0 := P15.cell 0
                have p1 := P15.cell 1
                have p2 := P15.cell 2
                simp at p0 p1 p2
                have HL15 := Lib.hid (HL14.out.no f15)
                have b0 := f15.cell b0 (fun h => h)
                have b1 := f15.cell b1 (fun h => h)
                have b2 := f15.cell b2 (fun h => h)
                have b3 := f15.cell b3 (fun h => h)
                have CPQ := Lib.hid (HL15.out.ow.pointer_q HB2.out.wf zl)
                obtain ⟨P, hP⟩ : ∃ P, ptrM m2 zl = P := ⟨_, rfl⟩
                have hP64 : 0 ≤ P ∧ P ≤ 65536 := by
                  rw [← hP]
                  unfold ptrM
                  have := (zoneM_ok HB2.out.wf zl).l
                  have := HB2.out.wf.s64
                  split <;> omega
                rw [hP] at CPQ hptr
                have hpw : IntKind.i64.wrap (P - (Z : Int)) = t := by
                  rw [← hptr]
                  simp [IntKind.wrap, IntKind.signed, IntKind.bits]
                  omega
                have z1 : (zl != zl) = false := by simp
                have z2 : ((rn : Int) != (rn : Int)) = false := by simp
                have z3 : (t != t) = false := by simp
                clear ho hf f15 P15 HL14 HL13 CP hptr hP
                go_wp2_with fail
                try rw [hw15]
                try go_wp2_with fail
                go_quiet (first | exact CPQ.out _)
                clear CPQ hzwr hpw
                obtain ⟨w16, hw16⟩ : ∃ w, w15.drewN nq = w := ⟨_, rfl⟩
                rw [hw16]
                have f16 : Fr No w15 w16 := by rw [← hw16]; exact (Fr.refl No w15).drewN _
                have HL16 := Lib.hid (HL15.out.no f16)
                have b0 := f16.cell b0 (fun h => h)
                have b1 := f16.cell b1 (fun h => h)
                have b2 := f16.cell b2 (fun h => h)
                have b3 := f16.cell b3 (fun h => h)
                have p0 := f16.cell p0 (fun h => h)
                have p1 := f16.cell p1 (fun h => h)
                have p2 := f16.cell p2 (fun h => h)
                obtain ⟨u', w17, hrun, hl17, hf17⟩ := HL16.out.pushI y HUN.out (by have := HUL.out; omega)
                have HRUN := Lib.hid hrun
                have p0 := hf17.cell p0 (fun hu => by have h1 : w14.heap.size < wr.heap.size := HNU.out _ hu; have := HS14.out; omega)
                have p1 := hf17.cell p1 (fun hu => by have h1 : w14.heap.size < wr.heap.size := HNU.out _ hu; have := HS14.out; omega)
                have p2 := hf17.cell p2 (fun hu => by have h1 : w14.heap.size < wr.heap.size := HNU.out _ hu; have := HS14.out; omega)
                obtain ⟨p', w18, hrun2, hl18, hf18⟩ := hl17.pushP (zl, t, (rn : Int)) HVL.out (by have := HUL.out; omega)
                have HRUN2 := Lib.hid hrun2
                have HFIN : Hid (∃ K' : Nat → Prop, LoJ W K' w18 g d v zs m2 u' (allE (putS S zl y)) p' ((allV (putS S zl y)).map vlP)) := Lib.hid ⟨_, by
                  rw [HAE.out, HAV.out, List.map_append]
                  have e : [(⟨eKy y, y.val, zl, t, (R.length : Int)⟩ : Vl)].map vlP = [(zl, t, (rn : Int))] := by rw [HRN.out]; rfl
                  rw [e]
                  exact hl18⟩
                have HLEN : Hid ((allE (putS S zl y)).length ≤ j + 1) := Lib.hid (by rw [HAE.out, List.length_append, HUN.out]; have := HUL.out; simp; omega)
                obtain ⟨va, vn, vc, rfl⟩ : ∃ a n c, u' = .slice a n c := by
                  obtain ⟨a, c, h, _⟩ := hl17.ri.ents
                  exact ⟨a, _, c, h⟩
                obtain ⟨xa, xn, xc, rfl⟩ : ∃ a n c, p' = .slice a n c := by
                  obtain ⟨a, c, h, _⟩ := hl18.rp.pts
                  exact ⟨a, _, c, h⟩
                clear hrun hrun2 hl17 hl18 hf17 hf18 f16 HL16 HL15 hw16 HAE HAV
                go_wp2_with (at_builtin; first | refine wpList_append_run rfl _ _ 35 rfl rfl rfl HRUN.out ?_ | refine wpList_append_run rfl _ _ 41 rfl rfl rfl HRUN2.out ?_)
                go_roundw
                case rel =>
                  obtain ⟨K', hK'⟩ := HFIN.out
                  exact ⟨j + 1, nx, K', v, zs, m2, putS S zl y, by simp, rfl, by omega, hK', HB2.out, HDX.out, HLEN.out⟩
                case measure => simp [intOf]; omega
          · have dg : decide (rm < (Z : Int)) = false := decide_eq_false hg
            have hn0 : 0 < nx := by
              rcases Nat.eq_zero_or_pos nx with h | h
              · have := hrm0 h
                omega
              · exact h
            have HLR := Lib.hid HL11.out
            have HBG := Lib.hid HBK.out
            have HSR := Lib.hid HS11.out
            have CRM := Lib.hid (HL11.out.ow.room HBK.out.wf (by rw [HBK.out.zl]; omega))
            clear HL11 HRM HRM0 hrm0
            obtain ⟨rm2, hrm2⟩ : ∃ r, roomL m zs = r := ⟨_, rfl⟩
            have HPUT := Lib.hid (HBG.out.put hn0 HX.out HR.out HZ.out)
            have HDX := Lib.hid (Nat.le_trans (done_appDv m zs R) (Nat.succ_le_succ HDN.out))
            rw [hrm2] at CRM HPUT
            obtain ⟨zl, hzl⟩ : ∃ z : Int, ((nx : Nat) : Int) - 1 = z := ⟨_, rfl⟩
            have hn4' : nx ≤ 4 := HBG.out.n4
            have hzwr : IntKind.i64.wrap (((nx : Nat) : Int) - 1) = zl := by
              rw [← hzl]
              simp [IntKind.wrap, IntKind.signed, IntKind.bits]
              omega
            rw [hzl] at HPUT
            have HZL := Lib.hid hzl
            have HZS : Hid (zs.length ≤ 1000000) := Lib.hid (by rw [HBG.out.zl]; omega)
            clear hzl hrm2
            go_wp2_with fail
            refine (show Calls _ _ _ _ _ from CRM.out).mono ?_
            rintro e w13 ⟨rfl, _, hf⟩
            have HL13 := Lib.hid (HLR.out.no hf)
            have b0 := hf.cell b0 (fun h => h)
            have b1 := hf.cell b1 (fun h => h)
            have b2 := hf.cell b2 (fun h => h)
            have b3 := hf.cell b3 (fun h => h)
            have HS13 : Hid (wr.heap.size ≤ w13.heap.size) := Lib.hid (Nat.le_trans HSR.out hf.size)
            have CP := Lib.hid (CPUT.out w13 v zs HL13.out.ow HZS.out)
            clear hf HLR CRM CPUT
            rcases HPUT.out with ⟨⟨pe, hpe, hpt⟩, hlt, hbk2⟩ | ⟨t, hpt, hle, hptr, hbk2, hae, hav⟩
            · rw [hpt] at CP
              have HB2 := Lib.hid hbk2
              generalize appDv m zs R = m2 at *
              unfold ptV at CP
              simp only at CP
              have e1 : (pe == 0) = false := by rw [beq_eq_false_iff_ne]; exact hpe
              have e2 : (pe != 0) = true := by rw [bne_iff_ne]; exact hpe
              have e3 : decide ((Z : Int) ≤ rm2) = false := by rw [decide_eq_false_iff_not]; omega
              clear hpe hpt hlt hbk2 HPUT
              go_wp2_with fail
              refine (show Calls _ _ _ _ _ from CP.out).mono ?_
              rintro e w14 ⟨rfl, ho, hf⟩
              have HL14 := Lib.hid (HL13.out.call ho hf)
              have f15 := (Fr.refl No w14).alloc (.cells #[.int .i64 0, .int .i64 0, .int .i64 0] 23)
              have HL15 := Lib.hid (HL14.out.no f15)
              clear ho hf f15 HL14 HL13 CP
              go_wp2_with fail
              go_roundw
              case rel => exact ⟨j + 1, nx, K5, v, zs, m2, S, by simp, rfl, by omega, by rw [HUN.out, HVL.out] at *; exact HL15.out, HB2.out, HDX.out, by rw [HUN.out]; exact Nat.le_succ_of_le HUL.out⟩
              case measure => simp [intOf]; omega
            · rw [hpt] at CP
              have HB2 := Lib.hid hbk2
              have HAE := Lib.hid hae
              have HAV := Lib.hid hav
              generalize appDv m zs R = m2 at *
              unfold ptV at CP
              simp only [HRN.out] at CP
              have e3 : decide ((Z : Int) ≤ rm2) = true := by rw [decide_eq_true_eq]; omega
              clear hpt hle hbk2 hae hav HPUT
              go_wp2_with fail
              refine (show Calls _ _ _ _ _ from CP.out).mono ?_
              rintro e w14 ⟨rfl, ho, hf⟩
              have HL14 := Lib.hid (HL13.out.call ho hf)
              have b0 := hf.cell b0 (fun hn => hn HKB.out)
              have b1 := hf.cell b1 (fun hn => hn HKB.out)
              have b2 := hf.cell b2 (fun hn => hn HKB.out)
              have b3 := hf.cell b3 (fun hn => hn HKB.out)
              have HS14 : Hid (wr.heap.size ≤ w14.heap.size) := Lib.hid (Nat.le_trans HS13.out hf.size)
              obtain ⟨w15, hw15⟩ : ∃ w, w14.alloc (.cells #[.int .i64 zl, .int .i64 t, .int .i64 (rn : Int)] 23) = w := ⟨_, rfl⟩
              have f15 : Fr No w14 w15 := by rw [← hw15]; exact (Fr.refl No w14).alloc _
              have P15 : At w15 w14.heap.size 23 #[.int .i64 zl, .int .i64 t, .int .i64 (rn : Int)] := by rw [← hw15]; exact At.new _ _ _
              have p0 := P15.cell 0
              have p1 := P15.cell 1
              have p2 := P15.cell 2
              simp at p0 p1 p2
              have HL15 := Lib.hid (HL14.out.no f15)
              have b0 := f15.cell b0 (fun h => h)
              have b1 := f15.cell b1 (fun h => h)
              have b2 := f15.cell b2 (fun h => h)
              have b3 := f15.cell b3 (fun h => h)
              have CPQ := Lib.hid (HL15.out.ow.pointer_q HB2.out.wf zl)
              obtain ⟨P, hP⟩ : ∃ P, ptrM m2 zl = P := ⟨_, rfl⟩
              have hP64 : 0 ≤ P ∧ P ≤ 65536 := by
                rw [← hP]
                unfold ptrM
                have := (zoneM_ok HB2.out.wf zl).l
                have := HB2.out.wf.s64
                split <;> omega
              rw [hP] at CPQ hptr
              have hpw : IntKind.i64.wrap (P - (Z : Int)) = t := by
                rw [← hptr]
                simp [IntKind.wrap, IntKind.signed, IntKind.bits]
                omega
              have z1 : (zl != zl) = false := by simp
              have z2 : ((rn : Int) != (rn : Int)) = false := by simp
              have z3 : (t != t) = false := by simp
              clear ho hf f15 P15 HL14 HL13 CP hptr hP
              go_wp2_with fail
              try rw [hw15]
              try go_wp2_with fail
              go_quiet (first | exact CPQ.out _)
              clear CPQ hzwr hpw
              obtain ⟨w16, hw16⟩ : ∃ w, w15.drewN nq = w := ⟨_, rfl⟩
              rw [hw16]
              have f16 : Fr No w15 w16 := by rw [← hw16]; exact (Fr.refl No w15).drewN _
              have HL16 := Lib.hid (HL15.out.no f16)
              have b0 := f16.cell b0 (fun h => h)
              have b1 := f16.cell b1 (fun h => h)
              have b2 := f16.cell b2 (fun h => h)
              have b3 := f16.cell b3 (fun h => h)
              have p0 := f16.cell p0 (fun h => h)
              have p1 := f16.cell p1 (fun h => h)
              have p2 := f16.cell p2 (fun h => h)
              obtain ⟨u', w17, hrun, hl17, hf17⟩ := HL16.out.pushI y HUN.out (by have := HUL.out; omega)
              have HRUN := Lib.hid hrun
              have p0 := hf17.cell p0 (fun hu => by have h1 : w14.heap.size < wr.heap.size := HNU.out _ hu; have := HS14.out; omega)
              have p1 := hf17.cell p1 (fun hu => by have h1 : w14.heap.size < wr.heap.size := HNU.out _ hu; have := HS14.out; omega)
              have p2 := hf17.cell p2 (fun hu => by have h1 : w14.heap.size < wr.heap.size := HNU.out _ hu; have := HS14.out; omega)
              obtain ⟨p', w18, hrun2, hl18, hf18⟩ := hl17.pushP (zl, t, (rn : Int)) HVL.out (by have := HUL.out; omega)
              have HRUN2 := Lib.hid hrun2
              have HFIN : Hid (∃ K' : Nat → Prop, LoJ W K' w18 g d v zs m2 u' (allE (putS S zl y)) p' ((allV (putS S zl y)).map vlP)) := Lib.hid ⟨_, by
                rw [HAE.out, HAV.out, List.map_append]
                have e : [(⟨eKy y, y.val, zl, t, (R.length : Int)⟩ : Vl)].map vlP = [(zl, t, (rn : Int))] := by rw [HRN.out]; rfl
                rw [e]
                exact hl18⟩
              have HLEN : Hid ((allE (putS S zl y)).length ≤ j + 1) := Lib.hid (by rw [HAE.out, List.length_append, HUN.out]; have := HUL.out; simp; omega)
              obtain ⟨va, vn, vc, rfl⟩ : ∃ a n c, u' = .slice a n c := by
                obtain ⟨a, c, h, _⟩ := hl17.ri.ents
                exact ⟨a, _, c, h⟩
              obtain ⟨xa, xn, xc, rfl⟩ : ∃ a n c, p' = .slice a n c := by
                obtain ⟨a, c, h, _⟩ := hl18.rp.pts
                exact ⟨a, _, c, h⟩
              clear hrun hrun2 hl17 hl18 hf17 hf18 f16 HL16 HL15 hw16 HAE HAV
              go_wp2_with (at_builtin; first | refine wpList_append_run rfl _ _ 35 rfl rfl rfl HRUN.out ?_ | refine wpList_append_run rfl _ _ 41 rfl rfl rfl HRUN2.out ?_)
              go_roundw
              case rel =>
                obtain ⟨K', hK'⟩ := HFIN.out
                exact ⟨j + 1, nx, K', v, zs, m2, putS S zl y, by simp, rfl, by omega, hK', HB2.out, HDX.out, HLEN.out⟩
              case measure => simp [intOf]; omega
        · rw [decide_eq_false hrt] at CRT
          have CP := Lib.hid (fun (w : World) (h : OwnL W K5 w g d v zs m) => h.putN (eKy y) y.val hrt)
          have CVS := Lib.hid (fun (w : World) => vsize_no (eKy y) y.val w hrt)
          unfold kyV eKy at CREF CRT CVS CP
          simp only at CREF CRT CVS CP
          clear hrt
          go_wp2_with fail
          try rw [hw5]
          try go_wp2_with fail
          refine (CREF.out _).mono ?_
          rintro e w6 ⟨rfl, hf6⟩
          have HL6 := Lib.hid (HL5.out.no hf6)
          have b0 := hf6.cell b0 (fun h => h)
          have b1 := hf6.cell b1 (fun h => h)
          have b2 := hf6.cell b2 (fun h => h)
          have b3 := hf6.cell b3 (fun h => h)
          clear hf6 HL5
          go_wp2_with fail
          refine (CRT.out _).mono ?_
          rintro e w7 ⟨rfl, hf7⟩
          have HL7 := Lib.hid (HL6.out.no hf7)
          have b0 := hf7.cell b0 (fun h => h)
          have b1 := hf7.cell b1 (fun h => h)
          have b2 := hf7.cell b2 (fun h => h)
          have b3 := hf7.cell b3 (fun h => h)
          clear hf7 HL6 CRT
          have CP7 := Lib.hid (CP.out w7 HL7.out.ow)
          go_wp2_with fail
          refine (show Calls _ _ _ _ _ from CP7.out).mono ?_
          rintro e w8 ⟨rfl, _, hf8⟩
          have f9 := hf8.alloc (.cells #[.int .i64 0, .int .i64 0, .int .i64 0] 23)
          have HL9 := Lib.hid (HL7.out.no f9)
          have b0 := f9.cell b0 (fun h => h)
          have b1 := f9.cell b1 (fun h => h)
          have b2 := f9.cell b2 (fun h => h)
          have b3 := f9.cell b3 (fun h => h)
          clear hf8 f9 CP CP7 HL7
          unfold ptV
          go_wp2_with fail
          refine (CVS.out _).mono ?_
          rintro e w10 ⟨rfl, hf⟩
          have HL10 := Lib.hid (HL9.out.no hf)
          clear hf CVS HL9
          go_wp2_with fail
          go_roundw
          case rel => exact ⟨j + 1, nx, K5, v, zs, m, S, by simp, rfl, by omega, by rw [HUN.out, HVL.out] at *; exact HL10.out, HBK.out, Nat.le_succ_of_le HDN.out, by rw [HUN.out]; exact Nat.le_succ_of_le HUL.out⟩
          case measure => simp [intOf]; omega
      · obtain rfl : ln = j := by omega
        have d1 : decide ((ln : Int) < (ln : Int)) = false := by simp
        have hbat := back_at HBK.out
        have HBA := Lib.hid hbat
        have HVN := Lib.hid (show (allV S).length = un by rw [hbat.1]; exact HUN.out)
        have HV0 := Lib.hid (LoV.start HLI.out.ow)
        have HENT := Lib.hid HLI.out.ri
        have HPTS := Lib.hid HLI.out.rp
        have HFW := Lib.hid HLI.out.ow.fr
        have hul := HUL.out
        have HACC : Hid (∀ k, k ≤ 4 → (accV S k).length ≤ 1000) := Lib.hid fun k hk => by
          have h4 := HVN.out
          rw [← accV_all] at h4
          have hmono : ∀ i, (accV S k).length ≤ (accV S (k + i)).length := fun i => by
            induction i with
            | zero => exact Nat.le_refl _
            | succ i ih =>
              show _ ≤ (accV S (k + i) ++ zvl S _).length
              rw [List.length_append]
              omega
          have h5 := hmono (4 - k)
          rw [show k + (4 - k) = 4 by omega, h4] at h5
          omega
        clear hbat HLI h1 HDN
        generalize wr = w0 at *
        go_wp2_with fail
        go_loopw [17, 162] (fun q i w' => ∃ k : Nat, i = .int .i64 k ∧ k ≤ 4 ∧ LoV W w0 w' g d v zs m q (accV S k)) (fun _ i _ => 4 - (intOf i).toNat)
        case atStart => exact ⟨0, rfl, by omega, HV0.out⟩
        case round =>
          clear HV0
          obtain ⟨k, rfl, hk, hlv⟩ := hrel
          have HLV := Lib.hid hlv
          obtain ⟨qa, qc, rfl, _, _, _⟩ := hlv.row.vls
          have hlen := HACC.out k hk
          obtain ⟨qn, hqn⟩ : ∃ n, (accV S k).length = n := ⟨_, rfl⟩
          have HQN := Lib.hid hqn
          rw [hqn] at HLV hlen
          rw [hqn]
          clear hlv hqn
          by_cases hk4 : k < 4
          · have d2 : decide ((k : Int) < 4) = true := by rw [decide_eq_true_eq]; omega
            have hls := HBK.out.list (z := (k : Int)) (by omega) (by omega)
            have CL := HLV.out.ow.list HBK.out.wf HT.out (k : Int)
            rw [hls.1, hls.2] at CL
            have CL := Lib.hid CL
            clear hls
            go_wp2_with fail
            refine (show Calls _ _ _ _ _ from CL.out).mono ?_
            rintro e w5 ⟨hret, _, hf5⟩
            rcases hret with ⟨h0, _⟩ | ⟨_, vw, rfl, hrow, _⟩
            · exact absurd rfl h0
            have hnext := HACC.out (k + 1) (by omega)
            have hsum : (accV S (k + 1)).length = qn + (zvl S k).length := by
              show (accV S k ++ zvl S k).length = _
              rw [List.length_append, HQN.out]
            obtain ⟨q', w6, hrun, hlv2⟩ := HLV.out.more hf5 hrow (by rw [HQN.out]; omega)
            obtain ⟨za, zc, rfl, _, _, _⟩ := hrow.vls
            obtain ⟨zn, hzn⟩ : ∃ n, (zvl S (k : Int)).length = n := ⟨_, rfl⟩
            rw [hzn] at hrun ⊢
            have HRUN := Lib.hid hrun
            have HLV2 := Lib.hid (show LoV W w0 w6 g d v zs m q' (accV S (k + 1)) from hlv2)
            obtain ⟨ra, rn, rc, rfl⟩ : ∃ a n c, q' = .slice a n c := by
              obtain ⟨a, c, h, _⟩ := hlv2.row.vls
              exact ⟨a, _, c, h⟩
            clear hf5 hrow hrun hlv2 CL hnext hsum hzn HLV
            go_wp2_with (at_builtin; refine wpList_append_run rfl _ _ 56 rfl rfl rfl HRUN.out ?_)
            go_roundw
            case rel => exact ⟨k + 1, by simp, by omega, HLV2.out⟩
            case measure => simp [intOf]; omega
          · obtain rfl : 4 = k := by omega
            have d2 : decide (((4 : Nat) : Int) < 4) = false := by decide
            have hqu : qn = un := by
              have h1 := HQN.out
              rw [accV_all, HVN.out] at h1
              exact h1.symm
            subst hqu
            have d3 : ((qn : Int) != (qn : Int)) = false := by simp
            have HFV := Lib.hid HLV.out.fr
            have HOW := Lib.hid (HLV.out.ow.sub (K' := No) fun k h => h.elim)
            have hvr := HLV.out.row
            rw [accV_all, ← HVN.out] at hvr
            obtain ⟨a1, c1, he1, _, _, hvv⟩ := hvr.vls
            rw [HVN.out] at he1
            obtain ⟨rfl, _, rfl⟩ := Value.slice.inj he1
            have HVV := Lib.hid hvv
            have her := HENT.out.keep HFV.out (fun _ _ h => h)
            rw [← HUN.out] at her
            obtain ⟨a2, c2, he2, _, _, hev⟩ := her.ents
            rw [HUN.out] at he2
            obtain ⟨rfl, _, rfl⟩ := Value.slice.inj he2
            have HEV := Lib.hid hev
            have hpr := HPTS.out.keep HFV.out (fun _ _ h => h)
            rw [← HVL.out] at hpr
            obtain ⟨a3, c3, he3, _, _, hpv⟩ := hpr.pts
            rw [HVL.out] at he3
            obtain ⟨rfl, _, rfl⟩ := Value.slice.inj he3
            have HPV := Lib.hid hpv
            clear hvr hvv her hev hpr hpv he1 he2 he3 HLV HACC HENT HPTS hk hk4
            generalize wr = w' at *
            go_wp2_with fail
            go_loopw [184] (fun i wx => ∃ k : Nat, i = .int .i64 k ∧ k ≤ qn ∧ Fr No w' wx) (fun i _ => qn - (intOf i).toNat)
            case atStart => exact ⟨0, rfl, Nat.zero_le _, Fr.refl _ _⟩
            case round =>
              obtain ⟨k, rfl, hk, hfr⟩ := hrel
              have HFR := Lib.hid hfr
              clear hfr
              by_cases h1 : k < qn
              · have d1 : decide ((k : Int) < (qn : Int)) = true := by rw [decide_eq_true_eq]; omega
                obtain ⟨eb, eo, _, rfl, hex⟩ := HEV.out (by rw [HUN.out]; omega)
                have hx := (hex k (by rw [HUN.out]; exact h1)).keep HFR.out (fun h => h)
                obtain ⟨wb, wo, _, rfl, hwx⟩ := HVV.out (by rw [HVN.out]; omega)
                have hy := (hwx k (by rw [HVN.out]; exact h1)).keep HFR.out (fun h => h)
                obtain ⟨mb, mo, _, rfl, hmx⟩ := HPV.out (by rw [HVL.out]; omega)
                have hz := (hmx k (by rw [HVL.out]; exact h1)).keep HFR.out (fun h => h)
                obtain ⟨y, hye, e1, e2, e3, e4, e5, e6, e7⟩ := HBA.out.2 k (by rw [HUN.out]; exact h1)
                have HEX := Lib.hid (And.intro hex (And.intro hwx hmx))
                clear hex hwx hmx
                rw [e1] at hz
                rw [hye] at hy
                obtain ⟨x, hxe⟩ : ∃ x, (allE S).getD k ent0 = x := ⟨_, rfl⟩
                rw [hxe] at hx e2 e3 e4 e5 e6 e7
                clear hxe hye e1
                obtain ⟨f0, f1, f2, f3⟩ := hx
                obtain ⟨⟨yu, yq, yk⟩, ys, yz, yt, yn⟩ := y
                simp only at e2 e3 e4 e5 hy hz
                subst e3
                have HK := Lib.hid (keyNeq ⟨yu, yq, yk⟩ (eKy x) e2)
                unfold eKy at e2 e4 HK
                simp only [Ky.mk.injEq] at e2
                obtain ⟨rfl, rfl, rfl⟩ := e2
                obtain ⟨g0, g1, g2, g3, g4, g5, g6⟩ := hy
                obtain ⟨k0, k1, k2⟩ := hz
                simp only at g0 g1 g2 g3 g4 g5 g6 k0 k1 k2 HK
                have hk' := HK.out
                have hpq := ptNeq yz yt yn
                have hqw : IntKind.i64.wrap (x.q + 1) = x.q + 1 := by
                  simp [IntKind.wrap, IntKind.signed, IntKind.bits]
                  omega
                obtain ⟨w8, hw8⟩ : ∃ w, wr.alloc (.cells #[.string x.u, .int .i64 x.q, .int .i64 x.k, .string x.val] 45) = w := ⟨_, rfl⟩
                have A8 : At w8 wr.heap.size 45 #[.string x.u, .int .i64 x.q, .int .i64 x.k, .string x.val] := by rw [← hw8]; exact At.new _ _ _
                have f8 : Fr No wr w8 := by rw [← hw8]; exact (Fr.refl No wr).alloc _
                have HF8 := Lib.hid (HFR.out.trans f8)
                have HA8 := Lib.hid A8
                have HCL : Hid (∀ w, Fr No w8 w → (w.cell? ⟨wr.heap.size, 0, none⟩ = some (.string x.u) ∧ w.cell? ⟨wr.heap.size, 1, none⟩ = some (.int .i64 x.q) ∧ w.cell? ⟨wr.heap.size, 2, none⟩ = some (.int .i64 x.k) ∧ w.cell? ⟨wr.heap.size, 3, none⟩ = some (.string x.val)) ∧
                  (w.cell? ⟨mb, mo + k * 3, none⟩ = some (.int .i64 yz) ∧ w.cell? ⟨mb, mo + k * 3 + 1, none⟩ = some (.int .i64 yt) ∧ w.cell? ⟨mb, mo + k * 3 + 2, none⟩ = some (.int .i64 yn)) ∧
                  (w.cell? ⟨wb, wo + k * 7, none⟩ = some (.string x.u) ∧ w.cell? ⟨wb, wo + k * 7 + 1, none⟩ = some (.int .i64 x.q) ∧ w.cell? ⟨wb, wo + k * 7 + 2, none⟩ = some (.int .i64 x.k) ∧ w.cell? ⟨wb, wo + k * 7 + 3, none⟩ = some (.string x.val) ∧ w.cell? ⟨wb, wo + k * 7 + 4, none⟩ = some (.int .i64 yz) ∧ w.cell? ⟨wb, wo + k * 7 + 5, none⟩ = some (.int .i64 yt) ∧ w.cell? ⟨wb, wo + k * 7 + 6, none⟩ = some (.int .i64 yn))) := Lib.hid fun w f => by
                    have fa := f8.trans f
                    have A := A8.keep f (fun h => h)
                    exact ⟨⟨A.cell 0, A.cell 1, A.cell 2, A.cell 3⟩, ⟨fa.cell k0 (fun h => h), fa.cell k1 (fun h => h), fa.cell k2 (fun h => h)⟩, fa.cell g0 (fun h => h), fa.cell g1 (fun h => h), fa.cell g2 (fun h => h), fa.cell g3 (fun h => h), fa.cell g4 (fun h => h), fa.cell g5 (fun h => h), fa.cell g6 (fun h => h)⟩
                obtain ⟨⟨b0, b1, b2, b3⟩, ⟨k0, k1, k2⟩, g0, g1, g2, g3, g4, g5, g6⟩ := HCL.out w8 (Fr.refl _ _)
                have HO8 := Lib.hid (HOW.out.no HF8.out)
                have CG := Lib.hid (fun (w : World) (f : Fr No w8 w) => (HO8.out.no f).get HBK.out.wf HT.out yz yt yn ⟨x.u, x.q, x.k⟩)
                have CG2 := Lib.hid (fun (w : World) (ho : OwnL W No w g d v zs m) => ho.get HBK.out.wf HT.out yz yt yn ⟨x.u, x.q + 1, x.k⟩)
                rw [e4] at CG
                rw [e5] at CG2
                unfold kyV ptV at CG CG2
                simp only at CG CG2
                have hw8' := hw8
                clear A8 f8 HFR e4 e5 e6 e7 HK hw8
                have dm : (k : Int) < (qn : Int) := by omega
                go_wp2_with fail
                try rw [hw8']
                try go_wp2_with fail
                clear hw8'
                go_region_held3 (fun w' => (w'.cell? ⟨wr.heap.size, 0, none⟩ = some (.string x.u) ∧ w'.cell? ⟨wr.heap.size, 1, none⟩ = some (.int .i64 x.q) ∧ w'.cell? ⟨wr.heap.size, 2, none⟩ = some (.int .i64 x.k)) ∧ (w'.cell? ⟨mb, mo + k * 3, none⟩ = some (.int .i64 yz) ∧ w'.cell? ⟨mb, mo + k * 3 + 1, none⟩ = some (.int .i64 yt) ∧ w'.cell? ⟨mb, mo + k * 3 + 2, none⟩ = some (.int .i64 yn))) (first | assumption | go_keep)
                  (first
                    | (go_at_call 28; refine (CG.out _ (Fr.refl No w8).drew).mono ?_; rintro e w9 ⟨rfl, ho9, hf9⟩
                       have HF9 := Lib.hid ((Fr.refl No w8).drew.trans hf9)
                       obtain ⟨⟨b0, b1, b2, b3⟩, ⟨k0, k1, k2⟩, g0, g1, g2, g3, g4, g5, g6⟩ := HCL.out w9 ((Fr.refl No w8).drew.trans hf9)
                       clear ho9 hf9 CG))
                go_wp2_with fail
                go_quiet (fail)
                obtain ⟨w10, hw10⟩ : ∃ w, w9.drewN nq = w := ⟨_, rfl⟩
                rw [hw10]
                have f10 : Fr No w9 w10 := by rw [← hw10]; exact (Fr.refl No w9).drewN _
                have HF10 := Lib.hid (HF9.out.trans f10)
                obtain ⟨⟨b0, b1, b2, b3⟩, ⟨k0, k1, k2⟩, g0, g1, g2, g3, g4, g5, g6⟩ := HCL.out w10 HF10.out
                obtain ⟨w11, hw11⟩ : ∃ w, w10.alloc (.cells #[.string x.u, .int .i64 x.q, .int .i64 x.k] 43) = w := ⟨_, rfl⟩
                have f11 : Fr No w10 w11 := by rw [← hw11]; exact (Fr.refl No w10).alloc _
                have O11 : At w11 w10.heap.size 43 #[.string x.u, .int .i64 x.q, .int .i64 x.k] := by rw [← hw11]; exact At.new _ _ _
                have o0 := O11.cell 0
                have o1 := O11.cell 1
                have o2 := O11.cell 2
                have og := O11.frozen 1
                simp at o0 o1 o2
                have HOX := Lib.hid ((HO8.out.no HF10.out).new f11)
                have HBX : Hid (Gr No w10 w11 w10.heap.size ∧ W.heap.size ≤ w10.heap.size) := Lib.hid ⟨.inr ⟨Nat.le_refl _, by rw [← hw11]; simp⟩, (HO8.out.no HF10.out).fr.size⟩
                obtain ⟨w12, hw12⟩ : ∃ w, w11.setCell ⟨w10.heap.size, 1, none⟩ (.int .i64 (x.q + 1)) = w := ⟨_, rfl⟩
                have f12 : Fr (One w10.heap.size) w11 w12 := by rw [← hw12]; exact (Fr.refl (One w10.heap.size) w11).setCell (p := ⟨w10.heap.size, 1, none⟩) (fun _ => (rfl : w10.heap.size = w10.heap.size)) _
                have O12 : At w12 w10.heap.size 43 #[.string x.u, .int .i64 (x.q + 1), .int .i64 x.k] := by rw [← hw12]; exact O11.set_ 1 _
                have F12 : Fr No w8 w12 := (HF10.out.trans f11).then_ f12 fun q hq hh => by
                  have hh : q = w10.heap.size := hh
                  have := HF10.out.size
                  omega
                have HF12 := Lib.hid F12
                have HO12 := Lib.hid (((HOX.out.turn f12 fun q _ hh => by have hh : q = w10.heap.size := hh; rw [hh]; exact HBX.out).sub (K' := No) fun q h => h.elim))
                obtain ⟨⟨b0, b1, b2, b3⟩, ⟨k0, k1, k2⟩, g0, g1, g2, g3, g4, g5, g6⟩ := HCL.out w12 F12
                have q0 := O12.cell 0
                have q1 := O12.cell 1
                have q2 := O12.cell 2
                simp at q0 q1 q2
                have HQ := Lib.hid (fun (w : World) (f : Fr No w12 w) => (And.intro ((O12.keep f (fun h => h)).cell 0) (And.intro ((O12.keep f (fun h => h)).cell 1) ((O12.keep f (fun h => h)).cell 2))))
                clear O11 O12 f10 f11 f12 F12 HOX HBX HF9 HF10 HO8
                go_wp2_with fail
                try rw [hw11]
                try go_wp2_with fail
                try rw [hw12]
                try go_wp2_with fail
                clear hw11 hw12
                go_region_held3 (fun w' => (w'.cell? ⟨w10.heap.size, 0, none⟩ = some (.string x.u) ∧ w'.cell? ⟨w10.heap.size, 1, none⟩ = some (.int .i64 (x.q + 1)) ∧ w'.cell? ⟨w10.heap.size, 2, none⟩ = some (.int .i64 x.k)) ∧ (w'.cell? ⟨mb, mo + k * 3, none⟩ = some (.int .i64 yz) ∧ w'.cell? ⟨mb, mo + k * 3 + 1, none⟩ = some (.int .i64 yt) ∧ w'.cell? ⟨mb, mo + k * 3 + 2, none⟩ = some (.int .i64 yn))) (first | assumption | go_keep)
                  (first
                    | (go_at_call 28; refine (CG2.out _ (HO12.out.no (Fr.refl No w12).drew)).mono ?_; rintro e w13 ⟨rfl, ho13, hf13⟩
                       have HF13 := Lib.hid ((Fr.refl No w12).drew.trans hf13)
                       obtain ⟨_, ⟨k0, k1, k2⟩, _⟩ := HCL.out w13 (HF12.out.trans ((Fr.refl No w12).drew.trans hf13))
                       obtain ⟨q0, q1, q2⟩ := HQ.out w13 ((Fr.refl No w12).drew.trans hf13)
                       simp at q0 q1 q2
                       clear ho13 hf13 CG2))
                go_wp2_with fail
                go_roundw
                case rel => exact ⟨k + 1, by simp, by omega, (HF8.out.trans HF12.out).trans HF13.out⟩
                case measure => simp [intOf]; omega
              · obtain rfl : qn = k := by omega
                have d1 : decide ((qn : Int) < (qn : Int)) = false := by simp
                have HF9 := Lib.hid ((HFW.out.trans HFV.out).trans HFR.out)
                go_wp2_with fail
                refine (CA.out _ HF9.out).mono ?_
                rintro e w9 ⟨rfl, hf⟩
                have HF10 := Lib.hid (HF9.out.trans hf)
                clear hf
                go_wp2_with fail
                go_ret
                exact ⟨rfl, HF10.out⟩
end Go.Proofs.YtihahckjcedceaaDoor
