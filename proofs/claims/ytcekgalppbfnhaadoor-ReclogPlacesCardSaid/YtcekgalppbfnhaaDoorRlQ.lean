/-
  The walk of the statement ReclogPlaces.
-/
import Derived.Test.YtcekgalppbfnhaaDoorRlP
import Derived.Deep.Fields
import Derived.Lib.SmallJoins
namespace Go.Proofs.YtcekgalppbfnhaaDoor
set_option linter.unusedVariables false
open Go.Joins Go.ChangeShapes Go.WideShapes Go.ChangeAt Go.RowKit Go.Deep

set_option maxRecDepth 20000 in
theorem placed_of {H : Type} {enc : TypeId × Value → H} {w : World} {base : Nat} {spare : Nat → Bool} {held : Bool} {r : Reach} {b0 : Nat} {v : Value} {d : DataW H} {p : List MemPlace}
    (hv : Value.okWide Tryd.prog w r b0 57 v) (h : DataW.Trod enc Tryd.prog w base spare held 57 v d p) :
    ∃ (a : Option Addr) (cap : Nat) (l : List Tx) (z t n : Int), v = .agg #[.slice a l.length cap, .int .i64 z, .int .i64 t, .int .i64 n] ∧ l.length ≤ cap ∧ cap ≤ maxLen ∧ Texts w a l ∧ (Lit.int .i64 z).wf = true ∧ (Lit.int .i64 t).wf = true ∧ (Lit.int .i64 n).wf = true := by
  obtain ⟨v0, v1, v2, v3, y0, y1, y2, y3, n, rfl, _, _, h0, h1, h2, h3⟩ := open_agg4 (Tryd.underlying57) (by kernel_rfl) (by kernel_rfl) hv h
  obtain ⟨z, e1, _, w1⟩ := DataW.trod_int Tryd.underlying3 h1
  obtain ⟨t, e2, _, w2⟩ := DataW.trod_int Tryd.underlying3 h2
  obtain ⟨n, e3, _, w3⟩ := DataW.trod_int Tryd.underlying3 h3
  simp only [List.cons.injEq, and_true] at e1 e2 e3
  subst e1 e2 e3
  obtain ⟨a, cap, l, rfl, g1, g2, g3⟩ := texts_of h0
  exact ⟨a, cap, l, z, t, n, rfl, g1, g2, g3, w1, w2, w3⟩
/-- The rounds of ReclogPlaces. -/
structure PlI (W : World) (g d : Nat) (lv : Value) (j : Nat) (v : Value) (al : List UInt8) (m : Dev) (L F : Nat → Prop) (wr : World) : Prop where
  ld : Ld L wr g d F m lv [1]
  pl : Pl m al
  row : Row wr (Own1 v) v al
  vL : ∀ k, v.ownBlock = some k → ¬ L k
  LB : ∀ k, L k → W.heap.size ≤ k
  vB : ∀ k, v.ownBlock = some k → W.heap.size ≤ k
  fr : Fr No W wr
  done : m.done ≤ j
set_option maxRecDepth 100000 in
set_option maxHeartbeats 6400000 in
theorem reclogPlaces_walk (W : World) (ht : Tab W) (a : Option Addr) (cap : Nat) (l : List Tx) (z t n : Int) (hc : l.length ≤ cap) (hm : cap ≤ maxLen) (hr : Texts W a l) (wz : (Lit.int .i64 z).wf = true) (wt : (Lit.int .i64 t).wf = true) (wn : (Lit.int .i64 n).wf = true) :
    Calls Tryd.prog 8 #[.agg #[.slice a l.length cap, .int .i64 z, .int .i64 t, .int .i64 n]] W fun e W' => e = .returned (.bool true) ∧ Below W.heap.size W W' := by
  refine Calls.mono (R := Ask (.bool true) W) ?_ fun e w' h => h.post
  obtain ⟨W0, hW0⟩ : ∃ W0, W.alloc (.cells #[.slice a l.length cap, .int .i64 z, .int .i64 t, .int .i64 n] 57) = W0 := ⟨_, rfl⟩
  have hf0 : Fr No W W0 := by rw [← hW0]; exact (Fr.refl No W).alloc _
  have A0 : At W0 W.heap.size 57 #[.slice a l.length cap, .int .i64 z, .int .i64 t, .int .i64 n] := by rw [← hW0]; exact At.new _ _ _
  have CS := Lib.hid (fun (w : World) (f : Fr No W w) => small9_c a cap l 30 w (Nat.le_trans hc hm) (hr.keep f))
  unfold maxLen at hm
  have CA := Lib.hid (fun w (f : Fr No W w) => awake9_c w (ht.keep f (fun h => h)))
  have CN := Lib.hid (fun w => new_c 3 400 3 w)
  have hW := Lib.hid hW0
  have HF0 := Lib.hid hf0
  have c0 := A0.cell 0
  have c1 := A0.cell 1
  have c2 := A0.cell 2
  have c3 := A0.cell 3
  simp at c0 c1 c2 c3
  have HPN : ∀ (b : Nat) (w : World), (binOp .eql 38 (.pointer (some ⟨b, 0, none⟩)) (.pointer none)).run Tryd.prog w = .ok (.bool false) w := fun _ _ => rfl
  have HPM : ∀ (b : Nat) (w : World), (binOp .neq 38 (.pointer (some ⟨b, 0, none⟩)) (.pointer none)).run Tryd.prog w = .ok (.bool true) w := fun _ _ => rfl
  have HPL : ∀ (b : Nat) (w : World), (binOp .eql 40 (.pointer (some ⟨b, 0, none⟩)) (.pointer none)).run Tryd.prog w = .ok (.bool false) w := fun _ _ => rfl
  clear A0 hf0 hW0
  cases hsm : small9 l 30 with
  | false =>
    rw [hsm] at CS
    clear hr ht hsm
    generalize l.length = nl at *
    go_enter Tryd.func8, Tryd.ntmps8
    go_wp2_with fail
    all_goals rw [hW.out]
    go_quiet (fail)
    go_wp2_with fail
    refine (CN.out _).mono ?_
    rintro e w1 ⟨hf1, _, hgo⟩
    obtain ⟨d, F, rfl, hd, hFB⟩ := hgo (by decide)
    have HF1 := Lib.hid ((HF0.out.drewN _).trans hf1)
    clear hgo hf1 hd hFB
    go_wp2_with fail
    refine (CS.out w1 HF1.out).mono ?_
    rintro e w2 ⟨rfl, rfl⟩
    go_wp2_with fail
    refine (CA.out w1 HF1.out).mono ?_
    rintro e w2 ⟨rfl, hf2⟩
    go_wp2_with fail
    go_ret
    exact ⟨rfl, HF1.out.trans hf2⟩
  | true =>
    rw [hsm] at CS
    obtain ⟨h30, h300⟩ := small9_yes hsm
    have H300 := Lib.hid h300
    have HREC := Lib.hid hr.recs
    have CFR := Lib.hid (fun (x : Tx) (n : Nat) (h : x.b.length = n) (hn : n ≤ 1000000) (w : World) (f : Fr No W w) (hr : Rd w x.a x.b) => frame_c x.a n x.c x.b w h hn hr (ht.keep f (fun h => h)))
    have CAP := Lib.hid (fun (w : World) (f : Fr No W w) => ht.keep f (fun h => h))
    obtain ⟨sz, hsz, wsz, csz⟩ := szOf_ex n wn
    have HSZ := Lib.hid hsz
    have CSZ := Lib.hid csz
    have CRS := Lib.hid (fun (a : Option Addr) (n c : Nat) (b : List UInt8) (w : World) (h : b.length = n) (hn : n ≤ 100000) (hc : n ≤ c) (hr : Rd w a b) => refScan_c a n c b w h hn hc hr)
    obtain ⟨nl, hn1⟩ : ∃ n, l.length = n := ⟨_, rfl⟩
    have HN := Lib.hid hn1
    have HW := Lib.hid (And.intro wt wsz)
    have hzt := wf_out wz
    have htt := wf_out wt
    have hnt := wf_out wn
    rw [hn1] at CS hc c0 hW h30
    rw [hn1]
    clear hr ht hsm hn1 h300 hsz csz wz wt wn wsz
    go_enter Tryd.func8, Tryd.ntmps8
    go_wp2_with fail
    all_goals rw [hW.out]
    go_quiet (fail)
    go_wp2_with fail
    refine (CN.out _).mono ?_
    rintro e w1 ⟨hf1, _, hgo⟩
    obtain ⟨d, F, rfl, hd, hFB⟩ := hgo (by decide)
    have HF1 := Lib.hid ((HF0.out.drewN _).trans hf1)
    have HFB : Hid (∀ k, F k → W.heap.size ≤ k) := Lib.hid fun k hk => by
      have h1 := hFB k hk
      have h2 := HF0.out.size
      exact Nat.le_trans h2 h1
    have HD := Lib.hid hd
    clear hgo hf1 hd hFB CN
    go_wp2_with fail
    refine (CS.out w1 HF1.out).mono ?_
    rintro e w2 ⟨rfl, rfl⟩
    go_wp2_with fail
    have f2 := (Fr.refl No w1).alloc (.cells #[.int .i64 1] 3)
    have CL := lnew_c (L := F) (HD.out.keep f2 (fun _ _ h => h)) (fun k hk => hk) (fun k hk => Nat.lt_of_lt_of_le (HD.out.1 k hk) f2.size) (some ⟨w1.heap.size, 0, none⟩) 1 1 [1] rfl (by omega) (fun _ => ⟨w1.heap.size, 0, rfl, fun i hi => by
      obtain rfl : i = 0 := by simp at hi; omega
      exact (At.new w1 3 #[.int .i64 1]).cell 0⟩)
    have HF2 := Lib.hid (HF1.out.trans f2)
    have HSZ2 := f2.size
    clear f2
    refine (show Calls _ _ _ _ _ from CL).mono ?_
    rintro e w3 ⟨g, lv, rfl, hld, hf3⟩
    have HLD := Lib.hid hld
    have HF3 := Lib.hid (HF2.out.trans hf3)
    have HLB : Hid (∀ k, Gr F (w1.alloc (.cells #[.int .i64 1] 3)) w3 k → W.heap.size ≤ k) := Lib.hid fun k hk => hk.elim (HFB.out k) fun hk => Nat.le_trans HF2.out.size hk.1
    clear hld hf3 CL
    go_wp2_with fail
    go_loopw [9, 52] (fun v i wr => ∃ (j : Nat) (al : List UInt8) (m : Dev) (L F : Nat → Prop), i = .int .i64 j ∧ j ≤ nl ∧ PlI W g d lv j v al m L F wr) (fun _ i _ => nl - (intOf i).toNat)
    case atStart => exact ⟨0, [], _, _, _, rfl, Nat.zero_le _, ⟨HLD.out, Pl.new, Row.nil _ _, fun k h => absurd h (by simp [Value.ownBlock]), HLB.out, fun k h => absurd h (by simp [Value.ownBlock]), HF3.out, Nat.zero_le _⟩⟩
    case round =>
      clear HLD HLB HD HFB HF1 HF2 HF3
      obtain ⟨j, al, m, L, F, rfl, hj, hI⟩ := hrel
      have HI := Lib.hid hI
      have hal := hI.pl.le
      by_cases h1 : j < nl
      · have d1 : decide ((j : Int) < (nl : Int)) = true := by rw [decide_eq_true_eq]; omega
        obtain ⟨b, o, rfl, hx⟩ := HREC.out (by rw [HN.out]; omega)
        obtain ⟨x, hxj⟩ : ∃ x, l[j]? = some x := ⟨_, List.getElem?_eq_getElem (by rw [HN.out]; exact h1)⟩
        have qx := (hx j x hxj).keep hI.fr
        have qc := qx.c0
        have hle := H300.out j x hxj
        obtain ⟨k, hmx⟩ : ∃ k, x.b.length = k := ⟨_, rfl⟩
        have HXR := Lib.hid (hx j x hxj)
        have CAPP := lappend_c hI.ld hI.pl.live.wf (by have := hI.done; omega) (by simp) x.a k x.c x.b hmx (by omega) qx.rd (CAP.out wr hI.fr)
        have hpl := hI.pl.app x.b hle
        have HK := Lib.hid hmx
        rw [hmx] at qc hle hpl
        clear hI hx hxj qx
        obtain ⟨za, zc, zb⟩ := x
        simp only at qc CAPP hpl hmx
        have CF := Lib.hid (fun w f r => CFR.out (Tx.mk za zc zb) k hmx (by omega) w f r)
        simp only at CF
        clear hmx
        obtain ⟨va, vc, rfl, v1, v2, _⟩ := HI.out.row.form
        unfold maxLen at v2
        have HROW := Lib.hid HI.out.row
        obtain ⟨an, han⟩ : ∃ n, al.length = n := ⟨_, rfl⟩
        rw [han] at HROW HI hal v1 hpl
        rw [han]
        have HAN := Lib.hid han
        clear han
        have hnoL : ∀ (q w4 : _), (Value.slice va an vc).ownBlock = some q → ¬ Gr L wr w4 q := fun q w4 hq hg => hg.elim (HI.out.vL q hq) fun hg => by
          have := (HROW.out.1.lt q hq).2
          omega
        have HNL := Lib.hid hnoL
        clear hnoL
        rcases hpl with ⟨hp1, hp2⟩ | ⟨hp1, hp2, hp3, hp4⟩
        · rw [hp2] at CAPP
          obtain ⟨⟨r1, r2, r3⟩, hR⟩ : ∃ r, appT m [1] zb = r := ⟨_, rfl⟩
          rw [hR] at CAPP hp1
          have e1 : (r3 == 0) = false := by rw [beq_eq_false_iff_ne]; exact hp1
          have CAPP := Lib.hid CAPP
          clear hp1 hp2 hR
          go_wp2_with fail
          refine (show Calls _ _ _ _ _ from CAPP.out).mono ?_
          rintro e w4 ⟨rfl, ⟨F', hl⟩, hf⟩
          have HNEW : Hid (PlI W g d lv (j + 1) (.slice va an vc) al m (Gr L wr w4) F' w4) := Lib.hid ⟨hl, HI.out.pl, HI.out.row.keep hf (fun k hk => HI.out.vL k hk), fun k hk => HNL.out k w4 hk,
            fun k hk => hk.elim (HI.out.LB k) fun hk => Nat.le_trans HI.out.fr.size hk.1, HI.out.vB, HI.out.fr.then_ hf fun k hk h => by have := HI.out.LB k h; omega, Nat.le_trans HI.out.done (Nat.le_succ _)⟩
          clear hl hf CAPP
          go_wp2_with fail
          go_roundw
          case rel => exact ⟨j + 1, al, m, _, F', by simp, by omega, HNEW.out⟩
          case measure => simp [intOf]; omega
        · rw [hp1] at CAPP
          have hal2 := hp2.le
          obtain ⟨m2, hm2⟩ : ∃ x, appDv m [1] zb = x := ⟨_, rfl⟩
          rw [hm2] at CAPP hp2 hp3 hp4
          have CAPP := Lib.hid CAPP
          have HP2 := Lib.hid (And.intro hp2 (And.intro hp3 hp4))
          have hkz : sizeL zb.length = sizeL k := by rw [HK.out]
          have hkl := sizeL_le (n := k) (by omega)
          have e2 : ((an : Int) != (an : Int)) = false := by simp
          clear hp1 hp2 hp3 hp4 hm2
          go_wp2_with fail
          refine (show Calls _ _ _ _ _ from CAPP.out).mono ?_
          rintro e w4 ⟨rfl, ⟨F', hl⟩, hf⟩
          have HL4 := Lib.hid hl
          have HF4 : Hid (Fr No W w4) := Lib.hid (HI.out.fr.then_ hf fun k hk h => by have := HI.out.LB k h; omega)
          have HR4 := Lib.hid (HROW.out.keep hf (fun k hk => HI.out.vL k hk))
          have HS4 := hf.size
          have CF4 := Lib.hid (CF.out w4 HF4.out (HXR.out.rd.keep HF4.out))
          clear hl hf CAPP CF
          go_wp2_with fail
          refine (show Calls _ _ _ _ _ from CF4.out).mono ?_
          rintro e w5 ⟨v5, rfl, r5, f5⟩
          obtain ⟨fa, fc, rfl, g1, g2, gin⟩ := r5.form
          obtain ⟨fl, hfl⟩ : ∃ n, (frameL zb).length = n := ⟨_, rfl⟩
          have hflb := frameL_length zb
          rw [hkz, hfl] at hflb
          rw [hfl]
          obtain ⟨v', W6, hrun, hrow6, hf6⟩ := (HR4.out.keep f5 (fun _ _ h => h)).append fa fl fc (frameL zb) hfl gin.rd (by rw [HAN.out]; omega)
          obtain ⟨p1, p2, p3⟩ := hrow6.own1 HI.out.vB (Nat.le_trans HF4.out.size f5.size)
          have HRUN := Lib.hid hrun
          have hl6 := (HL4.out.keep f5 (fun _ _ h => h)).keep hf6 (fun k hk h => HNL.out k w4 h hk)
          have hF6 : Fr No W W6 := (HF4.out.trans f5).then_ hf6 fun k hk h => by have := HI.out.vB k h; omega
          have hv6 : ∀ q, v'.ownBlock = some q → ¬ Gr L wr w4 q := fun q hq hg => (p3 q hq).elim (fun h => HNL.out q w4 h hg) fun h => by
            have := HL4.out.low q hg
            have := f5.size
            omega
          have CRA := lreadat_c hl6 HP2.out.1.live.wf (CAP.out W6 hF6) 1 (an : Int) (k : Int) (sizeL k : Int) (wf_small (by omega) (by omega)) (wf_small (by omega) (by omega)) (fun w => fsize_c k w (by omega))
          have hra := HP2.out.2.2
          rw [hra] at CRA
          have CRA := Lib.hid CRA
          have HL6 := Lib.hid hl6
          have HF6 := Lib.hid hF6
          have HP6 := Lib.hid (And.intro p1 (And.intro p2 hv6))
          have HX6 := Lib.hid (HXR.out.rd.keep hF6)
          obtain ⟨ya, yn, yc, rfl⟩ : ∃ a n c, v' = .slice a n c := by
            obtain ⟨a, c, h, _⟩ := p1.form
            exact ⟨a, _, c, h⟩
          clear r5 f5 g1 g2 gin hfl hflb hrun hrow6 hf6 p1 p2 p3 hl6 hF6 hv6 hra CF4 HR4
          go_wp2_with (at_builtin; refine wpList_append_run rfl _ _ 22 rfl rfl rfl HRUN.out ?_)
          refine (show Calls _ _ _ _ _ from CRA.out).mono ?_
          rintro e w7 ⟨ra, rc, rfl, rin, rf⟩
          simp only
          rw [HK.out]
          have CSA := Lib.hid (same_yes (cap := rc) (cap' := zc) HK.out HK.out rin.rd (HX6.out.keep rf) rfl)
          have HNEW : Hid (PlI W g d lv (j + 1) (.slice ya yn yc) (al ++ frameL zb) m2 (Gr L wr w4) F' w7) := Lib.hid ⟨HL6.out.keep rf (fun _ _ h => h), HP2.out.1, HP6.out.1.keep rf (fun _ _ h => h), HP6.out.2.2,
            fun k hk => hk.elim (HI.out.LB k) fun hk => Nat.le_trans HI.out.fr.size hk.1, HP6.out.2.1, HF6.out.trans rf, by rw [HP2.out.2.1]; have := HI.out.done; omega⟩
          clear rin rf CRA HL6 HF6 HP6 HX6
          go_wp2_with fail
          refine (show Calls _ _ _ _ _ from CSA.out).mono ?_
          rintro e w8 ⟨rfl, rfl⟩
          go_wp2_with fail
          go_roundw
          case rel => exact ⟨j + 1, _, m2, _, F', by simp, by omega, HNEW.out⟩
          case measure => simp [intOf]; omega
      · obtain rfl : j = nl := by omega
        have d1 : decide ((j : Int) < (j : Int)) = false := by simp
        have hyes := hI.pl.yes HSZ.out (z := z) (t := t)
        have hno := ra_no (m := m) (z := z) (t := t) (s := sz)
        have CRA := Lib.hid (lreadat_c hI.ld hI.pl.live.wf (CAP.out wr hI.fr) z t n sz HW.out.1 HW.out.2 CSZ.out)
        have CAW := Lib.hid (fun w (f : Fr No wr w) => CA.out w (hI.fr.trans f))
        have HAT := Lib.hid (fun (t n : Nat) (hn : n ≤ 400) h => hI.pl.at_ (t := t) (n := n) hn h)
        have HFW := Lib.hid hI.fr
        obtain ⟨va, vc, rfl, v1, v2, vin⟩ := hI.row.form
        unfold maxLen at v2
        obtain ⟨an, han⟩ : ∃ n, al.length = n := ⟨_, rfl⟩
        rw [han] at v1 hyes hal
        rw [han]
        have HAN := Lib.hid han
        have HVR := Lib.hid vin.rd
        rw [han] at HAT
        clear hI HI han vin CA CFR CAP
        by_cases hC : z = 1 ∧ 0 ≤ t ∧ 0 ≤ n ∧ n ≤ 400 ∧ t ≤ (an : Int) ∧ sz ≤ (an : Int) - t
        · obtain ⟨q0, q1, q2, q3, q4, q5⟩ := hC
          subst q0
          obtain ⟨tt, rfl⟩ : ∃ k : Nat, t = (k : Int) := ⟨t.toNat, by omega⟩
          obtain ⟨nn, rfl⟩ : ∃ k : Nat, n = (k : Int) := ⟨n.toNat, by omega⟩
          have hs := HSZ.out.mid q2 (by omega)
          rw [Int.toNat_natCast] at hs
          subst hs
          have hnn : nn ≤ 400 := by omega
          have hin : tt + sizeL nn ≤ an := by omega
          obtain ⟨ha1, ha2⟩ := HAT.out tt nn hnn hin
          have hisl : ((al.drop tt).take (sizeL nn)).length = sizeL nn := by
            rw [List.length_take, List.length_drop, HAN.out]
            omega
          have HIS := Lib.hid ((HVR.out.drop tt vc (by rw [HAN.out]; exact v1)).take (sizeL nn))
          obtain ⟨is, his⟩ : ∃ l, (al.drop tt).take (sizeL nn) = l := ⟨_, rfl⟩
          rw [his] at ha1 ha2 hisl HIS
          obtain ⟨S, hS⟩ : ∃ k, sizeL nn = k := ⟨_, rfl⟩
          rw [hS] at ha1 ha2 hisl CRA CSZ q5 hin
          have KS := cut_both (P := Tryd.prog) Tryd.underlying22 sizeU8 va an vc tt (tt + S) (by omega) (by omega)
          rw [show tt + S - tt = S by omega, show ((tt + S : Nat) : Int) = (tt : Int) + (S : Int) by omega] at KS
          have CM := Lib.hid (fun (w : World) (f : Fr No wr w) => CRS.out (cutAt va tt vc) S (vc - tt) is w hisl (by omega) (by omega) (HIS.out.keep f))
          have HRA := Lib.hid ha1
          have HLN := Lib.hid ha2
          have d_t : decide ((tt : Int) < 0) = false := by rw [decide_eq_false_iff_not]; omega
          have d_n : decide ((nn : Int) < 0) = false := by rw [decide_eq_false_iff_not]; omega
          have d_m : ¬ 400 < nn := by omega
          have d_m2 : decide ((400 : Int) < (nn : Int)) = false := by rw [decide_eq_false_iff_not]; omega
          have d_a : ¬ an < tt := by omega
          have d_a2 : decide ((an : Int) < (tt : Int)) = false := by rw [decide_eq_false_iff_not]; omega
          have e_s : (an : Int) - (tt : Int) = ((an - tt : Nat) : Int) := by omega
          have d_s : ¬ an - tt < S := by omega
          clear hyes hno q1 q2 q3 q4 q5 his hS ha1 ha2 hisl HIS HSZ HW hzt htt hnt HAT hnn
          generalize cutAt va tt vc = sa at *
          obtain ⟨sc, hsc⟩ : ∃ k, vc - tt = k := ⟨_, rfl⟩
          rw [hsc] at KS CM
          clear hsc
          obtain ⟨⟨r1, er⟩, hR⟩ : ∃ r, raR m 1 (tt : Int) (S : Int) = r := ⟨_, rfl⟩
          rw [hR] at CRA HRA
          clear hR
          by_cases hw1 : (scanL is).length = 1
          · obtain ⟨x, hx⟩ : ∃ x, scanL is = [x] := List.length_eq_one_iff.1 hw1
            by_cases hw2 : (framesL (scanL is)).length = S
            · have hxn := HLN.out x hx (by rw [← hx]; exact hw2)
              have hRv : (r1, er) = (x, 0) := by rw [HRA.out, if_pos ⟨hw1, hw2⟩, hx]; rfl
              obtain ⟨rfl, rfl⟩ := Prod.mk.inj hRv
              have HXN := Lib.hid hxn
              have HX := Lib.hid hx
              have HW2 := Lib.hid hw2
              clear hRv hw1 hw2 hx hxn HRA HLN
              go_wp2_with fail
              refine (show Calls _ _ _ _ _ from CRA.out).mono ?_
              rintro e w6 ⟨ra, rc, rfl, rin, rf⟩
              simp only at rin ⊢
              rw [HXN.out]
              have HRI := Lib.hid rin.rd
              have HF6 := Lib.hid rf
              have CM6 := Lib.hid (CM.out w6 rf)
              clear rin rf CRA CM
              go_wp2_with fail
              refine (CSZ.out w6).mono ?_
              rintro e w7 ⟨rfl, rfl⟩
              go_wp2_with fail
              refine (CSZ.out w6).mono ?_
              rintro e w7 ⟨rfl, rfl⟩
              go_wp2_with fail
              refine (show Calls _ _ _ _ _ from CM6.out).mono ?_
              rintro e w8 ⟨v8, ms, rfl, hms, hmb, hf8⟩
              obtain ⟨ma, mc, rfl, m1, m2, mrec⟩ := hms.texts
              have HF8 := Lib.hid (HF6.out.trans hf8)
              have CAW8 := Lib.hid (CAW.out w8 (HF6.out.trans hf8))
              rw [HX.out] at hmb
              obtain ⟨mx, rfl, hmx⟩ := one_of hmb
              obtain ⟨E, hE⟩ : ∃ E, (framesL (scanL is)).length = E := ⟨_, rfl⟩
              obtain rfl : S = E := HW2.out.symm.trans hE
              rw [hE]
              have e_e : ((S : Int) == (S : Int)) = true := by simp
              have e_n : ((nn : Int) == (nn : Int)) = true := by simp
              obtain ⟨rb, ro, rfl, hat⟩ := mrec (Nat.zero_lt_succ _)
              have qm := (hat 0 mx rfl).c0
              have qr := (hat 0 mx rfl).rd
              rw [hmx, HXN.out] at qm
              rw [hmx] at qr
              simp only [Nat.add_zero] at qm
              have CSA := Lib.hid (same_yes (cap := rc) (cap' := mx.c) HXN.out HXN.out (HRI.out.keep hf8) qr rfl)
              clear hms hmb hf8 mrec CM6 CAW hE hmx hat qr HRI
              generalize mx.a = xa at *
              generalize mx.c = xc at *
              simp only [List.length_cons, List.length_nil, Nat.zero_add] at m1 ⊢
              go_wp2_with fail
              refine (show Calls _ _ _ _ _ from CSA.out).mono ?_
              rintro e w9 ⟨rfl, rfl⟩
              go_wp2_with fail
              refine (show Calls _ _ _ _ _ from CAW8.out).mono ?_
              rintro e w10 ⟨rfl, hf10⟩
              go_wp2_with fail
              go_ret
              exact ⟨rfl, (HFW.out.trans HF8.out).trans hf10⟩
            · have hRv : (r1, er) = ([], 22) := by rw [HRA.out, if_neg fun h => hw2 h.2]
              obtain ⟨rfl, rfl⟩ := Prod.mk.inj hRv
              have HX := Lib.hid hx
              have e_w2 : ∀ E : Nat, (framesL (scanL is)).length = E → (((E : Int) == (S : Int)) = false) := fun E hE => by rw [beq_eq_false_iff_ne]; omega
              have HW2 := Lib.hid e_w2
              clear hRv hw1 hw2 hx HRA HLN e_w2
              go_wp2_with fail
              refine (show Calls _ _ _ _ _ from CRA.out).mono ?_
              rintro e w6 ⟨ra, rc, rfl, rin, rf⟩
              simp only [List.length_nil]
              have HF6 := Lib.hid rf
              have CM6 := Lib.hid (CM.out w6 rf)
              clear rin rf CRA CM
              go_wp2_with fail
              refine (CSZ.out w6).mono ?_
              rintro e w7 ⟨rfl, rfl⟩
              go_wp2_with fail
              refine (CSZ.out w6).mono ?_
              rintro e w7 ⟨rfl, rfl⟩
              go_wp2_with fail
              refine (show Calls _ _ _ _ _ from CM6.out).mono ?_
              rintro e w8 ⟨v8, ms, rfl, hms, hmb, hf8⟩
              obtain ⟨ma, mc, rfl, m1, m2, mrec⟩ := hms.texts
              have HF8 := Lib.hid (HF6.out.trans hf8)
              have CAW8 := Lib.hid (CAW.out w8 (HF6.out.trans hf8))
              rw [HX.out] at hmb
              obtain ⟨mx, rfl, hmx⟩ := one_of hmb
              obtain ⟨E, hE⟩ : ∃ E, (framesL (scanL is)).length = E := ⟨_, rfl⟩
              have e_e := HW2.out E hE
              rw [hE]
              clear hms hmb hf8 mrec CM6 CAW hE hmx
              simp only [List.length_cons, List.length_nil, Nat.zero_add] at m1 ⊢
              go_wp2_with fail
              refine (show Calls _ _ _ _ _ from CAW8.out).mono ?_
              rintro e w10 ⟨rfl, hf10⟩
              go_wp2_with fail
              go_ret
              exact ⟨rfl, (HFW.out.trans HF8.out).trans hf10⟩
          · have hRv : (r1, er) = ([], 22) := by rw [HRA.out, if_neg fun h => hw1 h.1]
            obtain ⟨rfl, rfl⟩ := Prod.mk.inj hRv
            have HW1 := Lib.hid hw1
            clear hRv hw1 HRA HLN
            go_wp2_with fail
            refine (show Calls _ _ _ _ _ from CRA.out).mono ?_
            rintro e w6 ⟨ra, rc, rfl, rin, rf⟩
            simp only [List.length_nil]
            have HF6 := Lib.hid rf
            have CM6 := Lib.hid (CM.out w6 rf)
            clear rin rf CRA CM
            go_wp2_with fail
            refine (CSZ.out w6).mono ?_
            rintro e w7 ⟨rfl, rfl⟩
            go_wp2_with fail
            refine (CSZ.out w6).mono ?_
            rintro e w7 ⟨rfl, rfl⟩
            go_wp2_with fail
            refine (show Calls _ _ _ _ _ from CM6.out).mono ?_
            rintro e w8 ⟨v8, ms, rfl, hms, hmb, hf8⟩
            obtain ⟨ma, mc, rfl, m1, m2, mrec⟩ := hms.texts
            have HF8 := Lib.hid (HF6.out.trans hf8)
            have CAW8 := Lib.hid (CAW.out w8 (HF6.out.trans hf8))
            have e_l : ((ms.length : Int) == 1) = false := by
              rw [beq_eq_false_iff_ne]
              have h1 := HW1.out
              have h2 := congrArg List.length hmb
              rw [List.length_map] at h2
              omega
            clear hms hmb hf8 mrec CM6 CAW
            generalize ms.length = mn at *
            generalize (framesL (scanL is)).length = E at *
            go_wp2_with fail
            refine (show Calls _ _ _ _ _ from CAW8.out).mono ?_
            rintro e w10 ⟨rfl, hf10⟩
            go_wp2_with fail
            go_ret
            exact ⟨rfl, (HFW.out.trans HF8.out).trans hf10⟩
        · have hr2 : (raR m z t sz).2 ≠ 0 := fun h => hC (hyes h)
          obtain ⟨R, hRR⟩ : ∃ r, raR m z t sz = r := ⟨_, rfl⟩
          have hr1 := hno hr2
          rw [hRR] at hr1 hr2 CRA
          obtain ⟨r1, er⟩ := R
          simp only at hr1 hr2
          subst hr1
          have e0 : (er != 0) = true := by rw [bne_iff_ne]; exact hr2
          clear hyes hno hRR hr2 HAT
          by_cases q0 : z = 1
          rotate_left
          · have d_z : (z != 1) = true := by rw [bne_iff_ne]; exact q0
            go_wp2_with fail
            refine (show Calls _ _ _ _ _ from CRA.out).mono ?_
            rintro e w6 ⟨ra, rc, rfl, rin, rf⟩
            simp only [List.length_nil]
            have CAW6 := Lib.hid (CAW.out w6 rf)
            have HF6 := Lib.hid (HFW.out.trans rf)
            clear rin rf CRA CAW
            go_wp2_with fail
            refine (show Calls _ _ _ _ _ from CAW6.out).mono ?_
            rintro e w8 ⟨rfl, hf8⟩
            go_wp2_with fail
            go_ret
            exact ⟨rfl, HF6.out.trans hf8⟩
          by_cases q1 : 0 ≤ t
          rotate_left
          · subst q0
            have d_z : ((1 : Int) != 1) = false := by rfl
            have d_t : decide (t < 0) = true := by rw [decide_eq_true_eq]; omega
            go_wp2_with fail
            refine (show Calls _ _ _ _ _ from CRA.out).mono ?_
            rintro e w6 ⟨ra, rc, rfl, rin, rf⟩
            simp only [List.length_nil]
            have CAW6 := Lib.hid (CAW.out w6 rf)
            have HF6 := Lib.hid (HFW.out.trans rf)
            clear rin rf CRA CAW
            go_wp2_with fail
            refine (show Calls _ _ _ _ _ from CAW6.out).mono ?_
            rintro e w8 ⟨rfl, hf8⟩
            go_wp2_with fail
            go_ret
            exact ⟨rfl, HF6.out.trans hf8⟩
          by_cases q2 : 0 ≤ n
          rotate_left
          · subst q0
            have d_z : ((1 : Int) != 1) = false := by rfl
            have d_t : decide (t < 0) = false := by rw [decide_eq_false_iff_not]; omega
            have d_n : decide (n < 0) = true := by rw [decide_eq_true_eq]; omega
            go_wp2_with fail
            refine (show Calls _ _ _ _ _ from CRA.out).mono ?_
            rintro e w6 ⟨ra, rc, rfl, rin, rf⟩
            simp only [List.length_nil]
            have CAW6 := Lib.hid (CAW.out w6 rf)
            have HF6 := Lib.hid (HFW.out.trans rf)
            clear rin rf CRA CAW
            go_wp2_with fail
            refine (show Calls _ _ _ _ _ from CAW6.out).mono ?_
            rintro e w8 ⟨rfl, hf8⟩
            go_wp2_with fail
            go_ret
            exact ⟨rfl, HF6.out.trans hf8⟩
          by_cases q3 : n ≤ 400
          rotate_left
          · subst q0
            have d_z : ((1 : Int) != 1) = false := by rfl
            have d_t : decide (t < 0) = false := by rw [decide_eq_false_iff_not]; omega
            have d_n : decide (n < 0) = false := by rw [decide_eq_false_iff_not]; omega
            have d_m : decide (400 < n) = true := by rw [decide_eq_true_eq]; omega
            go_wp2_with fail
            refine (show Calls _ _ _ _ _ from CRA.out).mono ?_
            rintro e w6 ⟨ra, rc, rfl, rin, rf⟩
            simp only [List.length_nil]
            have CAW6 := Lib.hid (CAW.out w6 rf)
            have HF6 := Lib.hid (HFW.out.trans rf)
            clear rin rf CRA CAW
            go_wp2_with fail
            refine (show Calls _ _ _ _ _ from CAW6.out).mono ?_
            rintro e w8 ⟨rfl, hf8⟩
            go_wp2_with fail
            go_ret
            exact ⟨rfl, HF6.out.trans hf8⟩
          by_cases q4 : t ≤ (an : Int)
          rotate_left
          · subst q0
            have d_z : ((1 : Int) != 1) = false := by rfl
            have d_t : decide (t < 0) = false := by rw [decide_eq_false_iff_not]; omega
            have d_n : decide (n < 0) = false := by rw [decide_eq_false_iff_not]; omega
            have d_m : decide (400 < n) = false := by rw [decide_eq_false_iff_not]; omega
            have d_a : decide ((an : Int) < t) = true := by rw [decide_eq_true_eq]; omega
            go_wp2_with fail
            refine (show Calls _ _ _ _ _ from CRA.out).mono ?_
            rintro e w6 ⟨ra, rc, rfl, rin, rf⟩
            simp only [List.length_nil]
            have CAW6 := Lib.hid (CAW.out w6 rf)
            have HF6 := Lib.hid (HFW.out.trans rf)
            clear rin rf CRA CAW
            go_wp2_with fail
            refine (show Calls _ _ _ _ _ from CAW6.out).mono ?_
            rintro e w8 ⟨rfl, hf8⟩
            go_wp2_with fail
            go_ret
            exact ⟨rfl, HF6.out.trans hf8⟩
          have q5 : ¬ sz ≤ (an : Int) - t := fun h => hC ⟨q0, q1, q2, q3, q4, h⟩
          subst q0
          have d_z : ((1 : Int) != 1) = false := by rfl
          have d_t : decide (t < 0) = false := by rw [decide_eq_false_iff_not]; omega
          have d_n : decide (n < 0) = false := by rw [decide_eq_false_iff_not]; omega
          have d_m : decide (400 < n) = false := by rw [decide_eq_false_iff_not]; omega
          have d_a : decide ((an : Int) < t) = false := by rw [decide_eq_false_iff_not]; omega
          have d_s : decide ((an : Int) - t < sz) = true := by rw [decide_eq_true_eq]; omega
          go_wp2_with fail
          refine (show Calls _ _ _ _ _ from CRA.out).mono ?_
          rintro e w6 ⟨ra, rc, rfl, rin, rf⟩
          simp only [List.length_nil]
          have CAW6 := Lib.hid (CAW.out w6 rf)
          have HF6 := Lib.hid (HFW.out.trans rf)
          clear rin rf CRA CAW
          go_wp2_with fail
          refine (CSZ.out w6).mono ?_
          rintro e w7 ⟨rfl, rfl⟩
          go_wp2_with fail
          refine (show Calls _ _ _ _ _ from CAW6.out).mono ?_
          rintro e w8 ⟨rfl, hf8⟩
          go_wp2_with fail
          go_ret
          exact ⟨rfl, HF6.out.trans hf8⟩
end Go.Proofs.YtcekgalppbfnhaaDoor
