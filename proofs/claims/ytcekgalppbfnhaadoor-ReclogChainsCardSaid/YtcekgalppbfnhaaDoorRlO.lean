/-
  Layer 9: ReadAt, Replay.
-/
import Derived.Test.YtcekgalppbfnhaaDoorRlM
import Derived.Test.YtcekgalppbfnhaaDoorRlT
namespace Go.Proofs.YtcekgalppbfnhaaDoor
set_option linter.unusedVariables false
open Go.RowKit

/-- What ReadAt tells of the place t of a zone, where s bytes are read. -/
noncomputable def raR (m : Dev) (z t s : Int) : List UInt8 × Int :=
  if rdErr m z t s = 0 then (if (scanL (rdB m z t s)).length = 1 ∧ (framesL (scanL (rdB m z t s))).length = (rdB m z t s).length then ((scanL (rdB m z t s)).getD 0 [], 0) else ([], 22)) else ([], rdErr m z t s)
def RaPost (r : List UInt8 × Int) (w : World) (e : Ending) (w' : World) : Prop := ∃ a c, e = .returned (.tuple #[.slice a r.1.length c, .int .i64 r.2]) ∧ In w' (From w.heap.size) a r.1 ∧ Fr No w w'
theorem rdB_le {m : Dev} (hw : WF m) (z t n : Int) : (rdB m z t n).length ≤ 65536 := by
  have h1 := (zoneM_ok hw z).l
  have h2 := hw.s64
  unfold rdB
  split
  · rw [List.length_take, List.length_drop]
    omega
  · simp
theorem size_big (n : Int) (h : 1000000 < n) (wn : (Lit.int .i64 n).wf = true) (w : World) : ∃ r : Int, (Lit.int .i64 r).wf = true ∧ (r < 0 ∨ 1000000 < r) ∧ ∀ w, Calls Tryd.prog 14 #[.int .i64 n] w fun e w' => e = .returned (.int .i64 r) ∧ w = w' := by
  obtain ⟨k, rfl⟩ : ∃ k : Nat, n = (k : Int) := ⟨n.toNat, by omega⟩
  have hn := wf_out wn
  have h9 := enc_len9 (show k < 9223372036854775808 by omega)
  have HC := Lib.hid (fun w => size_c k w (by omega))
  generalize (enc k).length = E at *
  have hw1 : IntKind.i64.wrap (4 + (E : Int)) = 4 + (E : Int) := by
    simp [IntKind.wrap, IntKind.signed, IntKind.bits]
    omega
  refine ⟨IntKind.i64.wrap (4 + (E : Int) + (k : Int)), ?_, ?_, fun w => ?_⟩
  · refine wf_small ?_ ?_ <;> simp [IntKind.wrap, IntKind.signed, IntKind.bits] <;> omega
  · simp [IntKind.wrap, IntKind.signed, IntKind.bits]
    omega
  · obtain ⟨R, hR⟩ : ∃ R, IntKind.i64.wrap (4 + (E : Int) + (k : Int)) = R := ⟨_, rfl⟩
    rw [hR]
    go_enter Tryd.func14, Tryd.ntmps14
    go_wp2_with fail
    refine (show Calls _ _ _ _ _ from HC.out w).mono ?_
    rintro e w' ⟨rfl, rfl⟩
    go_wp2_with fail
    go_ret
    exact ⟨rfl, rfl⟩
section
variable {L : Nat → Prop} {w : World} {g d : Nat} {F : Nat → Prop} {m : Dev} {v : Value} {zs : List Int}
set_option maxRecDepth 20000 in
set_option maxHeartbeats 3200000 in
theorem lreadat_c (h : Ld L w g d F m v zs) (hw : WF m) (ht : Tab w) (z t n s : Int) (wt : (Lit.int .i64 t).wf = true) (ws : (Lit.int .i64 s).wf = true)
    (CS : ∀ w, Calls Tryd.prog 14 #[.int .i64 n] w fun e w' => e = .returned (.int .i64 s) ∧ w = w') :
    Calls Tryd.prog 27 #[.pointer (some ⟨g, 0, none⟩), .int .i64 z, .int .i64 t, .int .i64 n] w (RaPost (raR m z t s) w) := by
  obtain ⟨c0, c1⟩ := h.cells
  have CS := Lib.hid CS
  have CR := Lib.hid (fun (w' : World) (f : Fr No w w') => dread_c (h.dz.keep f (fun _ _ h => h)) hw z t s wt ws)
  have hbl := rdB_le hw z t s
  have CSC := Lib.hid (fun (a : Option Addr) (n c : Nat) (b : List UInt8) (w' : World) (f : Fr No w w') (h : b.length = n) (hn : n ≤ 100000) (hc : n ≤ c) (hr : Rd w' a b) => scan_c a n c b w' h hn hc hr (ht.keep f (fun h => h)))
  have HRA : Hid (raR m z t s = if rdErr m z t s = 0 then (if (scanL (rdB m z t s)).length = 1 ∧ (framesL (scanL (rdB m z t s))).length = (rdB m z t s).length then ((scanL (rdB m z t s)).getD 0 [], 0) else ([], 22)) else ([], rdErr m z t s)) := Lib.hid rfl
  have hb0 : rdErr m z t s ≠ 0 → rdB m z t s = [] := fun h => by unfold rdB; rw [if_neg h]
  unfold ReadD at CR
  clear h hw ht wt ws
  generalize raR m z t s = R at *
  generalize rdB m z t s = bs at *
  generalize rdErr m z t s = er at *
  obtain ⟨len, hlen⟩ : ∃ n, bs.length = n := ⟨_, rfl⟩
  have HLEN := Lib.hid hlen
  rw [hlen] at hbl HRA CR
  clear hlen
  by_cases he : er = 0
  · subst he
    rw [if_pos rfl] at HRA
    clear hb0
    go_enter Tryd.func27, Tryd.ntmps27
    go_wp2_with fail
    go_region_held3 (fun w' => w'.cell? ⟨g, 0, none⟩ = some (.pointer (some ⟨d, 0, none⟩))) (first | assumption | go_keep)
      (first
        | (go_at_call 14; refine (CS.out w.drew).mono ?_; rintro e w5 ⟨rfl, rfl⟩)
        | (go_at_call 50; refine (CR.out w.drew (Fr.refl No w).drew).mono ?_; rintro e w6 ⟨ra, rc, rfl, r1, r2, rin, rf⟩
           have c0 := rf.cell (p := ⟨g, 0, none⟩) (v := .pointer (some ⟨d, 0, none⟩)) c0 (fun h => h)
           have RIN := Lib.hid rin
           have RF := Lib.hid ((Fr.refl No w).drew.trans rf)
           have RL := Lib.hid (And.intro r1 r2)
           clear rin rf r1 r2 CS CR))
    have C2 := Lib.hid (CSC.out ra len rc bs _ RF.out HLEN.out (by omega) RL.out.1 RIN.out.rd)
    go_wp2_with fail
    refine (show Calls _ _ _ _ _ from C2.out).mono ?_
    rintro e w7 ⟨v7, xs, rfl, htx, hxs, hf7⟩
    obtain ⟨xa, xc, rfl, x1, x2, hrec⟩ := htx.texts
    have HF7 := Lib.hid (RF.out.trans hf7)
    have hlx : xs.length = (scanL bs).length := by rw [← hxs, List.length_map]
    rw [← hxs] at HRA ⊢
    rw [List.length_map] at HRA
    have HAT := Lib.hid htx.at_
    have hsz6 := RF.out.size
    obtain ⟨en, hen⟩ : ∃ n, (framesL (xs.map Tx.b)).length = n := ⟨_, rfl⟩
    rw [hen] at HRA ⊢
    have HREC := Lib.hid hrec
    clear htx hxs hf7 hrec C2 hlx hen RIN RF RL
    by_cases h1 : xs.length = 1
    · obtain ⟨x, rfl⟩ : ∃ x, xs = [x] := List.length_eq_one_iff.1 h1
      by_cases h2 : en = len
      · subst h2
        have HR : Hid (R = (x.b, 0)) := Lib.hid (by rw [HRA.out, if_pos ⟨rfl, rfl⟩]; rfl)
        obtain ⟨rb, ro, rfl, hat⟩ := HREC.out (Nat.zero_lt_succ _)
        have c2 := (hat 0 x rfl).c0
        simp only [Nat.add_zero] at c2
        have HIN := Lib.hid (HAT.out x (List.mem_singleton.2 rfl))
        have e2 : ((en : Int) != (en : Int)) = false := by simp
        obtain ⟨za, zc, zb⟩ := x
        simp only at c2 HIN HR
        have HOUT : Hid (RaPost R w (.returned (.tuple #[.slice za zb.length zc, .int .i64 0])) w7) := Lib.hid (by
          rw [HR.out]
          exact ⟨za, zc, rfl, HIN.out.sub fun k _ hk => Nat.le_trans hsz6 hk.1, HF7.out⟩)
        clear hat h1 HR HIN HAT HREC HRA
        generalize zb.length = zn at *
        simp only [List.length_cons, List.length_nil, Nat.zero_add] at x1 ⊢
        go_wp2_with fail
        go_ret2
        exact HOUT.out
      · have HR : Hid (R = ([], 22)) := Lib.hid (by rw [HRA.out, if_neg (fun h => h2 h.2)])
        have e2 : ((en : Int) != (len : Int)) = true := by rw [bne_iff_ne]; omega
        clear h1 h2 HREC HAT HRA
        simp only [List.length_cons, List.length_nil, Nat.zero_add] at x1 ⊢
        go_wp2_with fail
        go_ret2
        exact ⟨none, 0, by rw [HR.out]; rfl, by rw [HR.out]; exact In.nil _ _ _, HF7.out⟩
    · have HR : Hid (R = ([], 22)) := Lib.hid (by rw [HRA.out, if_neg (fun h => h1 h.1)])
      have e1 : ((xs.length : Int) != 1) = true := by rw [bne_iff_ne]; omega
      clear h1 HREC HAT HRA
      generalize xs.length = xn at *
      go_wp2_with fail
      go_ret2
      exact ⟨none, 0, by rw [HR.out]; rfl, by rw [HR.out]; exact In.nil _ _ _, HF7.out⟩
  · rw [if_neg he] at HRA
    have h0 := hb0 he
    subst h0
    have HR := Lib.hid HRA.out
    obtain rfl : 0 = len := HLEN.out
    have e1 : (er != 0) = true := by rw [bne_iff_ne]; exact he
    clear hb0 he HRA
    go_enter Tryd.func27, Tryd.ntmps27
    go_wp2_with fail
    go_region_held3 (fun w' => w'.cell? ⟨g, 0, none⟩ = some (.pointer (some ⟨d, 0, none⟩))) (first | assumption | go_keep)
      (first
        | (go_at_call 14; refine (CS.out w.drew).mono ?_; rintro e w5 ⟨rfl, rfl⟩)
        | (go_at_call 50; refine (CR.out w.drew (Fr.refl No w).drew).mono ?_; rintro e w6 ⟨ra, rc, rfl, r1, r2, rin, rf⟩
           have c0 := rf.cell (p := ⟨g, 0, none⟩) (v := .pointer (some ⟨d, 0, none⟩)) c0 (fun h => h)
           have RF := Lib.hid ((Fr.refl No w).drew.trans rf)
           clear rin rf r1 r2 CS CR))
    go_wp2_with fail
    go_ret2
    exact ⟨none, 0, by rw [HR.out]; rfl, by rw [HR.out]; exact In.nil _ _ _, RF.out⟩
/-- The records of a log, and whether no zone of it is torn. -/
noncomputable def repL (m : Dev) : List Int → List (List UInt8) × Bool
  | [] => ([], true)
  | z :: zs => if (framesL (scanL (zoneM m z).b)).length = (zoneM m z).b.length then (scanL (zoneM m z).b ++ (repL m zs).1, (repL m zs).2) else (scanL (zoneM m z).b, false)
theorem repL_cons (m : Dev) (z : Int) (zs : List Int) : repL m (z :: zs) = if (framesL (scanL (zoneM m z).b)).length = (zoneM m z).b.length then (scanL (zoneM m z).b ++ (repL m zs).1, (repL m zs).2) else (scanL (zoneM m z).b, false) := rfl
theorem repL_one {m : Dev} {zs : List Int} {j : Nat} {xs : List Tx} {z : Int} (h : repL m zs = (xs.map Tx.b ++ (repL m (zs.drop j)).1, (repL m (zs.drop j)).2)) (hj : j < zs.length) (hz : zs.getD j 0 = z) :
    (framesL (scanL (zoneM m z).b)).length = (zoneM m z).b.length ∧ (∀ ys : List Tx, ys.map Tx.b = scanL (zoneM m z).b → repL m zs = ((xs ++ ys).map Tx.b ++ (repL m (zs.drop (j + 1))).1, (repL m (zs.drop (j + 1))).2)) ∨
    (framesL (scanL (zoneM m z).b)).length < (zoneM m z).b.length ∧ (∀ ys : List Tx, ys.map Tx.b = scanL (zoneM m z).b → repL m zs = ((xs ++ ys).map Tx.b, false)) := by
  have e : zs.drop j = z :: zs.drop (j + 1) := by
    rw [List.drop_eq_getElem_cons hj]
    congr 1
    rw [← hz, List.getD_eq_getElem?_getD, List.getElem?_eq_getElem hj]
    rfl
  have hle := (scanL_is (zoneM m z).b).le
  rw [e, repL_cons] at h
  by_cases hc : (framesL (scanL (zoneM m z).b)).length = (zoneM m z).b.length
  · rw [if_pos hc] at h
    refine .inl ⟨hc, fun ys hy => ?_⟩
    rw [h, List.map_append, hy, List.append_assoc]
  · rw [if_neg hc] at h
    refine .inr ⟨by omega, fun ys hy => ?_⟩
    rw [h, List.map_append, hy]
def RepPost (r : List (List UInt8) × Bool) (w : World) (e : Ending) (w' : World) : Prop := ∃ v xs, e = .returned (.tuple #[v, .bool r.2, .int .i64 0]) ∧ TxR w' w.heap.size v xs ∧ xs.map Tx.b = r.1 ∧ Fr No w w'
set_option maxRecDepth 20000 in
set_option maxHeartbeats 3200000 in
theorem lreplay_c (h : Ld L w g d F m v zs) (hw : WF m) (ht : Tab w) (hn : zs.length ≤ 64) (hz : ∀ z ∈ zs, m.down = false ∧ hasZ m z = true) :
    Calls Tryd.prog 28 #[.pointer (some ⟨g, 0, none⟩)] w (RepPost (repL m zs) w) := by
  obtain ⟨c0, c1⟩ := h.cells
  obtain ⟨a, cap, rfl, h1, h2, hnum⟩ := h.lg.row.nums
  have HNUM := Lib.hid hnum
  have HZ := Lib.hid hz
  have HSZ := Lib.hid (fun z => Nat.le_trans (zoneM_ok hw z).l hw.s64)
  have HP := Lib.hid (fun (w' : World) (f : Fr No w w') (z : Int) => pointer_c (h.dz.keep f (fun _ _ h => h)) hw z)
  have HR := Lib.hid (fun (w' : World) (f : Fr No w w') (z n : Int) (wn : (Lit.int .i64 n).wf = true) => dread_c (h.dz.keep f (fun _ _ h => h)) hw z 0 n (by decide) wn)
  have CSC := Lib.hid (fun (a : Option Addr) (n c : Nat) (b : List UInt8) (w' : World) (f : Fr No w w') (h : b.length = n) (hn : n ≤ 100000) (hc : n ≤ c) (hr : Rd w' a b) => scan_c a n c b w' h hn hc hr (ht.keep f (fun h => h)))
  obtain ⟨n, hn1⟩ : ∃ n, zs.length = n := ⟨_, rfl⟩
  have HN := Lib.hid hn1
  rw [hn1] at c1 h1 hn
  clear h hw ht hz hnum hn1
  go_enter Tryd.func28, Tryd.ntmps28
  go_wp2_with fail
  go_loopw [2, 16] (fun u i wr => ∃ (j : Nat) (xs : List Tx), i = .int .i64 j ∧ j ≤ n ∧ TxR wr w.heap.size u xs ∧ xs.length ≤ j * 13107 ∧ repL m zs = (xs.map Tx.b ++ (repL m (zs.drop j)).1, (repL m (zs.drop j)).2) ∧ Fr No w wr) (fun _ i _ => n - (intOf i).toNat)
  case atStart => exact ⟨0, [], rfl, Nat.zero_le _, TxR.nil _ _, Nat.zero_le _, rfl, Fr.refl _ _⟩
  case round =>
    obtain ⟨j, xs, rfl, hj, htx, hxl, hrep, hfr⟩ := hrel
    have HTX := Lib.hid htx
    have HF := Lib.hid hfr
    have HREP := Lib.hid hrep
    obtain ⟨va, vc, rfl, v1, v2, _⟩ := htx.texts
    unfold maxLen at v2
    by_cases h1 : j < n
    · have d1 : decide ((j : Int) < (n : Int)) = true := by rw [decide_eq_true_eq]; omega
      obtain ⟨b, o, rfl, hcell⟩ := HNUM.out (by rw [HN.out]; omega)
      have ck := hfr.cell (hcell j (by rw [HN.out]; exact h1)) (fun h => h)
      have cg := hfr.cell c0 (fun h => h)
      obtain ⟨z, hz⟩ : ∃ z, zs.getD j 0 = z := ⟨_, rfl⟩
      rw [hz] at ck
      have hzm : z ∈ zs := by
        rw [← hz, List.getD_eq_getElem?_getD, List.getElem?_eq_getElem (by rw [HN.out]; exact h1)]
        exact List.getElem_mem _
      obtain ⟨hdn, hhz⟩ := HZ.out z hzm
      have hone := repL_one hrep (by rw [HN.out]; exact h1) hz
      have hbl := HSZ.out z
      have HPT : ptrM m z = ((zoneM m z).b.length : Int) := by unfold ptrM; rw [if_pos hhz]
      have HER : rdErr m z 0 ((zoneM m z).b.length : Int) = 0 := by
        unfold rdErr
        rw [hdn, hhz]
        simp
      have HRB : rdB m z 0 ((zoneM m z).b.length : Int) = (zoneM m z).b := by
        unfold rdB
        rw [if_pos HER]
        simp
      have CP := HP.out wr.drew hfr.drew z
      have CR := HR.out wr.drew hfr.drew z ((zoneM m z).b.length : Int) (wf_small (by omega) (by omega))
      rw [HPT] at CP
      unfold ReadD at CR
      rw [HER, HRB] at CR
      obtain ⟨bs, hbs⟩ : ∃ l, (zoneM m z).b = l := ⟨_, rfl⟩
      rw [hbs] at hone hbl CP CR
      obtain ⟨len, hlen⟩ : ∃ n, bs.length = n := ⟨_, rfl⟩
      rw [hlen] at hone hbl CP CR
      have HLEN := Lib.hid hlen
      have HONE := Lib.hid hone
      have CP := Lib.hid CP
      have CR := Lib.hid CR
      obtain ⟨xn, hxn⟩ : ∃ n, xs.length = n := ⟨_, rfl⟩
      rw [hxn] at HTX v1 hxl
      rw [hxn]
      have HXN := Lib.hid hxn
      clear htx hfr hrep hcell hone hlen HPT HER HRB hzm hz hdn hhz hbs hxn
      go_wp2_with fail
      go_region_held3 (fun w' => w'.cell? ⟨g, 0, none⟩ = some (.pointer (some ⟨d, 0, none⟩))) (first | assumption | go_keep)
        (first
          | (go_at_call 25; refine (show Calls _ _ _ _ _ from CP.out).mono ?_; rintro e w5 ⟨rfl, rfl⟩)
          | (go_at_call 50; refine (show Calls _ _ _ _ _ from CR.out).mono ?_; rintro e w6 ⟨ra, rc, rfl, r1, r2, rin, rf⟩
             have cg := rf.cell (p := ⟨g, 0, none⟩) (v := .pointer (some ⟨d, 0, none⟩)) cg (fun h => h)
             have RIN := Lib.hid rin
             have RF := Lib.hid ((Fr.refl No wr).drew.trans rf)
             have RL := Lib.hid (And.intro r1 r2)
             clear rin rf r1 r2 CP CR))
      have C2 := Lib.hid (CSC.out ra len rc bs w6 (HF.out.trans RF.out) HLEN.out (by omega) RL.out.1 RIN.out.rd)
      clear RL RIN
      rename_i hKK hHeld
      clear hHeld
      refine hKK _ _ ?_
      clear hKK
      go_wp2_with fail
      refine (show Calls _ _ _ _ _ from C2.out).mono ?_
      rintro e w7 ⟨v7, ys, rfl, hty, hys, hf7⟩
      obtain ⟨ya, yc, rfl, y1, y2, _⟩ := hty.texts
      obtain ⟨yn, hyn⟩ : ∃ n, ys.length = n := ⟨_, rfl⟩
      have hcount := framesL_count (scanL bs)
      have hEle := (scanL_is bs).le
      rw [HLEN.out] at hEle
      rw [← hys, List.length_map, hys, hyn] at hcount
      rw [hyn] at hty y1
      rw [hyn]
      obtain ⟨E, hE⟩ : ∃ E, (framesL (scanL bs)).length = E := ⟨_, rfl⟩
      rw [hE] at HONE hEle hcount
      rw [hE]
      obtain ⟨v', W8, hrun, htx8, hf8⟩ := txR_join (HTX.out.keep (RF.out.trans hf7) (fun _ _ _ h => h)) hty (Nat.le_trans HF.out.size RF.out.size) (fun k hk => by
        have := (HTX.out.row.1.lt k hk).2
        have := RF.out.size
        omega) hf7.size (by rw [HXN.out, hyn]; omega) hyn
      have hF8 : Fr No w W8 := ((HF.out.trans RF.out).trans hf7).then_ hf8 fun k hk e => by
        have := HTX.out.own k e
        omega
      have HRUN := Lib.hid hrun
      have HTX8 := Lib.hid htx8
      have HF8 := Lib.hid hF8
      have HLL : Hid ((xs ++ ys).length = xn + yn) := Lib.hid (by rw [List.length_append, HXN.out, hyn])
      have HYS := Lib.hid hys
      obtain ⟨wa, wn, wc, rfl⟩ : ∃ a n c, v' = .slice a n c := by
        obtain ⟨a, c, h, _⟩ := htx8.row.form
        exact ⟨a, _, c, h⟩
      clear hty hys hf7 hrun htx8 hf8 hF8 C2 HREP HTX RF hE hyn
      rcases HONE.out with ⟨ho1, ho2⟩ | ⟨ho1, ho2⟩
      · have HO := Lib.hid (ho2 ys HYS.out)
        have hnl : ¬ E < len := by omega
        clear ho1 ho2 HONE
        go_wp2_with (at_builtin; refine wpList_append_run rfl _ _ 25 rfl rfl rfl HRUN.out ?_)
        go_roundw
        case rel => exact ⟨j + 1, xs ++ ys, by simp, by omega, HTX8.out, by rw [HLL.out]; omega, HO.out, HF8.out⟩
        case measure => simp [intOf]; omega
      · have HO := Lib.hid (ho2 ys HYS.out)
        clear ho2 HONE
        go_wp2_with (at_builtin; refine wpList_append_run rfl _ _ 25 rfl rfl rfl HRUN.out ?_)
        go_ret3
        exact ⟨_, xs ++ ys, by rw [HO.out]; rfl, HTX8.out, by rw [HO.out], HF8.out⟩
    · obtain rfl : j = n := by omega
      have d1 : decide ((j : Int) < (j : Int)) = false := by simp
      have HO : Hid (repL m zs = (xs.map Tx.b, true)) := Lib.hid (by
        rw [HREP.out, List.drop_of_length_le (by rw [HN.out]; exact Nat.le_refl _)]
        show (xs.map Tx.b ++ [], true) = _
        rw [List.append_nil])
      clear htx hfr hrep HREP
      go_wp2_with fail
      go_ret3
      exact ⟨_, xs, by rw [HO.out]; rfl, HTX.out, by rw [HO.out], HF.out⟩
end
end Go.Proofs.YtcekgalppbfnhaaDoor
