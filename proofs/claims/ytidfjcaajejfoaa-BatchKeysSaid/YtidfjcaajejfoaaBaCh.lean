/-
  Layer 10: BatchChecks.
-/
import Derived.Test.YtidfjcaajejfoaaBaOw
namespace Go.Proofs.Ytidfjcaajejfoaa
set_option linter.unusedVariables false
open Go.RowKit

set_option maxRecDepth 20000 in
set_option maxHeartbeats 3200000 in
theorem bchecks_c (H : BatchOK) (w : World) (q : Int) (a : Option Addr) (ca : Nat) (l : List Op10) (wq : (Lit.int .i64 q).wf = true) (h1 : l.length ≤ ca) (h2 : ca ≤ maxLen) (hi : Ops w (fun _ => True) a l) (hwf : ∀ x ∈ l, OpWf x) :
    Calls Try.prog 3 #[.agg #[.int .i64 q, .slice a l.length ca]] w (Ask (.bool true) w) := by
  have h1' : l.length ≤ maxLen := Nat.le_trans h1 h2
  obtain ⟨W, hW, hfW, m0, m1⟩ := box_batch w q (.slice a l.length ca)
  have hi0 : Ops w (fun k => k < w.heap.size) a l := hi.sub fun k hk _ => hk
  have HS := Lib.hid (small10_c q a ca l W h1' (hi.keep hfW fun _ _ h => h))
  have HCH := Lib.hid (fun (w' : World) (f : Fr No w w') => H.check q a ca l w' _ wq h1 h2 (hi.keep f fun _ _ h => h) hwf)
  have HBY := Lib.hid (fun (w' : World) (f : Fr No w w') => H.bytes q a ca l w' _ wq h1 h2 (hi.keep f fun _ _ h => h) hwf)
  have HSI := Lib.hid (fun (w' : World) (f : Fr No w w') => H.size q a ca l w' _ wq h1 h2 (hi.keep f fun _ _ h => h) hwf)
  have HLA := Lib.hid (fun (w' : World) (f : Fr No w w') => H.last q a ca l w' _ wq h1 h2 (hi.keep f fun _ _ h => h) hwf)
  have HKE := Lib.hid (fun (w' : World) (f : Fr No w w') => H.keys q a ca l w' _ wq h1 h2 (hi.keep f fun _ _ h => h) hwf)
  have HRF := Lib.hid (fun (w' : World) (f : Fr No w w') (hm : l.length ≤ 1000000) => ref10_c a ca l w' _ hm (hi.keep f fun _ _ h => h))
  have HAL := Lib.hid (fun (a' : Option Addr) (c' : Nat) (w' : World) (S' : Nat → Prop) (x : Ops w' S' a' l) => refAll_c q a' c' l w' S' wq h1' x hwf)
  have HRB := Lib.hid (fun (h : allO q l = true) (a' : Option Addr) (c' : Nat) (w' : World) (S' : Nat → Prop) (x : Ops w' S' a' l) => refBytes_c q.toNat a' c' l w' S' (by have := allO_parts h; omega) (allO_parts h).2.1 x (allO_parts h).2.2.2.2)
  have HQN := Lib.hid (fun (h : allO q l = true) => (show ((q.toNat : Nat) : Int) = q by have := (allO_parts h).2.2.1; omega))
  have HSY := Lib.hid (fun h => (small10_yes (l := l) h).1)
  have HPL := Lib.hid (fun (h : allO q l = true) => (allO_parts h).1)
  have HPL2 := Lib.hid (fun (h : allO q l = true) => (allO_parts h).2.1)
  have HSM := Lib.hid (fun (a' : Option Addr) (c' : Nat) (w' : World) (S S' : Nat → Prop) (h64 : l.length ≤ 1000000) (x : Ops w' S a l) (y : Ops w' S' a' l) => same10_yes q a a' ca c' l.length l w' S S' rfl h64 x y)
  obtain ⟨n, hn⟩ : ∃ n, l.length = n := ⟨_, rfl⟩
  rw [hn] at h1 HS HCH HBY HPL HPL2 HSM HSI HLA HKE HRF HAL HRB HSY m1 hW ⊢
  have HH := Lib.hid H
  have HW := Lib.hid hW
  have HFW := Lib.hid hfW
  have HI := Lib.hid hi0
  have HN := Lib.hid hn
  have HWF := Lib.hid hwf
  clear hW hfW hi hi0 hn h1 h2 h1' H hwf
  cases hs : small10 l with
  | false =>
    rw [hs] at HS
    go_enter Try.func3, Try.ntmps3
    go_wp2_with fail
    rw [HW.out]
    go_wp2_with fail
    refine HS.out.mono ?_
    rintro e w1 ⟨rfl, hf1⟩
    have HF1 := Lib.hid (HFW.out.trans hf1)
    clear hf1
    go_wp2_with fail
    refine (awake10_c HH.out _).mono ?_
    rintro e w5 ⟨rfl, hf5⟩
    have HF5 := Lib.hid hf5
    clear hf5
    go_wp2_with fail
    go_ret
    exact ⟨rfl, HF1.out.trans HF5.out⟩
  | true =>
    rw [hs] at HS
    have hn70 := HSY.out hs
    go_enter Try.func3, Try.ntmps3
    go_wp2_with fail
    rw [HW.out]
    go_wp2_with fail
    refine HS.out.mono ?_
    rintro e w1 ⟨rfl, hf1⟩
    have HF1 := Lib.hid (HFW.out.trans hf1)
    have o0 := hf1.cell m0 (fun h => h)
    have o1 := hf1.cell m1 (fun h => h)
    clear hf1 m0 m1 HS HW HSY hs
    go_wp2_with fail
    refine (HRF.out w1 HF1.out (by omega)).mono ?_
    rintro e w2 ⟨v2, rfl, hrow2, hf2⟩
    rw [HN.out] at hrow2
    obtain ⟨a2, c2, rfl, k1, k2, _, hcells2⟩ := hrow2.form
    have HF2 := Lib.hid (HF1.out.trans hf2)
    have p0 := hf2.cell o0 (fun h => h)
    have p1 := hf2.cell o1 (fun h => h)
    have HO2 := Lib.hid (hrow2.opsN HN.out)
    obtain ⟨B, hB⟩ : ∃ B, w.heap.size = B := ⟨_, rfl⟩
    rw [hB] at p0 p1 HI ⊢
    clear hf2 o0 o1 HF1 hrow2 hcells2 hB k1 k2
    go_wp2_with fail
    go_loopw [20] (fun i wr => ∃ k : Nat, i = .int .i64 k ∧ k ≤ n ∧ Fr No w2 wr) (fun i _ => n - (intOf i).toNat)
    case atStart => exact ⟨0, rfl, Nat.zero_le _, Fr.refl _ _⟩
    case round =>
      obtain ⟨k, rfl, hkn, hfr⟩ := hrel
      have HR := Lib.hid hfr
      clear hfr
      by_cases hlt : k < n
      · have hkl : k < l.length := by rw [HN.out]; exact hlt
        obtain ⟨b, o, _, rfl, hxs⟩ := HI.out (by omega)
        obtain ⟨b2, o2, _, rfl, hxs2⟩ := HO2.out (by omega)
        have hx := (hxs k hkl).keep (HF2.out.trans HR.out) (fun h => h)
        have hx2 := (hxs2 k hkl).keep HR.out (fun h => h)
        have hwx := HWF.out _ (getD_mem l k hkl)
        generalize l.getD k op0 = x at hx hx2 hwx
        obtain ⟨W3, hW3, hf3, hat⟩ := box_op wr x
        have hx2 := hx2.keep hf3 (fun h => h)
        have HW3 := Lib.hid hW3
        have HF3 := Lib.hid (HR.out.trans hf3)
        obtain ⟨c0, c1, c2'⟩ := hx
        obtain ⟨d0, d1, d2⟩ := hx2
        obtain ⟨t0, t1, t2⟩ := hat
        have HOC := Lib.hid (fun w' => HH.out.ocheck x w' hwx)
        have HRR := Lib.hid (fun w' => refRight_c x w' hwx)
        have hE : (if rightO x then (0 : Int) else 100) = 0 ∧ rightO x = true ∨ (if rightO x then (0 : Int) else 100) = 100 ∧ rightO x = false := by
          cases rightO x
          · exact .inr ⟨rfl, rfl⟩
          · exact .inl ⟨rfl, rfl⟩
        unfold errO at HOC
        obtain ⟨D, hD⟩ : ∃ D, wr.heap.size = D := ⟨_, rfl⟩
        rw [hD] at t0 t1 t2
        have HD := Lib.hid hD
        clear hW3 hf3 hwx hxs hxs2 hD
        go_wp2_with fail
        rw [HW3.out, HD.out]
        clear HW3 c0 c1 c2'
        rcases hE with ⟨e1, e2⟩ | ⟨e1, e2⟩
        · rw [e1] at HOC
          rw [e2] at HRR
          clear e1 e2
          have d9 : (true != true) = false := rfl
          have hfr3 := HF3.out.drew
          go_region_held3 (fun w' => w'.cell? ⟨b2, o2 + k * 3, none⟩ = some (.int .i64 x.k) ∧ w'.cell? ⟨b2, o2 + k * 3 + 1, none⟩ = some (.string x.key) ∧ w'.cell? ⟨b2, o2 + k * 3 + 2, none⟩ = some (.string x.val) ∧
              w'.cell? ⟨D, 0, none⟩ = some (.int .i64 x.k) ∧ w'.cell? ⟨D, 0 + 1, none⟩ = some (.string x.key) ∧ w'.cell? ⟨D, 0 + 2, none⟩ = some (.string x.val) ∧ Fr No w2 w') (first | assumption | go_keep)
            (first
              | (go_at_call 12; refine (HOC.out _).mono ?_; intro e w6 hret; obtain ⟨rfl, hf6⟩ := hret
                 have d0 := hf6.cell (p := ⟨b2, o2 + k * 3, none⟩) d0 (fun h => h)
                 have d1 := hf6.cell (p := ⟨b2, o2 + k * 3 + 1, none⟩) d1 (fun h => h)
                 have d2 := hf6.cell (p := ⟨b2, o2 + k * 3 + 2, none⟩) d2 (fun h => h)
                 have t0 := hf6.cell (p := ⟨D, 0, none⟩) t0 (fun h => h)
                 have t1 := hf6.cell (p := ⟨D, 0 + 1, none⟩) t1 (fun h => h)
                 have t2 := hf6.cell (p := ⟨D, 0 + 2, none⟩) t2 (fun h => h)
                 have hfr3 := hfr3.trans hf6
                 clear hf6)
              | (go_at_call 13; refine (HRR.out _).mono ?_; intro e w6 hret; obtain ⟨rfl, hf6⟩ := hret
                 have d0 := hf6.cell (p := ⟨b2, o2 + k * 3, none⟩) d0 (fun h => h)
                 have d1 := hf6.cell (p := ⟨b2, o2 + k * 3 + 1, none⟩) d1 (fun h => h)
                 have d2 := hf6.cell (p := ⟨b2, o2 + k * 3 + 2, none⟩) d2 (fun h => h)
                 have t0 := hf6.cell (p := ⟨D, 0, none⟩) t0 (fun h => h)
                 have t1 := hf6.cell (p := ⟨D, 0 + 1, none⟩) t1 (fun h => h)
                 have t2 := hf6.cell (p := ⟨D, 0 + 2, none⟩) t2 (fun h => h)
                 have hfr3 := hfr3.trans hf6
                 clear hf6))
          have HF6 := Lib.hid hfr3
          clear hfr3
          go_wp2_with fail
          go_roundw
          case rel => exact ⟨k + 1, by simp, by omega, HF6.out⟩
          case measure => simp [intOf]; omega
        · rw [e1] at HOC
          rw [e2] at HRR
          clear e1 e2
          have d9 : (false != false) = false := rfl
          have hfr3 := HF3.out.drew
          go_region_held3 (fun w' => w'.cell? ⟨b2, o2 + k * 3, none⟩ = some (.int .i64 x.k) ∧ w'.cell? ⟨b2, o2 + k * 3 + 1, none⟩ = some (.string x.key) ∧ w'.cell? ⟨b2, o2 + k * 3 + 2, none⟩ = some (.string x.val) ∧
              w'.cell? ⟨D, 0, none⟩ = some (.int .i64 x.k) ∧ w'.cell? ⟨D, 0 + 1, none⟩ = some (.string x.key) ∧ w'.cell? ⟨D, 0 + 2, none⟩ = some (.string x.val) ∧ Fr No w2 w') (first | assumption | go_keep)
            (first
              | (go_at_call 12; refine (HOC.out _).mono ?_; intro e w6 hret; obtain ⟨rfl, hf6⟩ := hret
                 have d0 := hf6.cell (p := ⟨b2, o2 + k * 3, none⟩) d0 (fun h => h)
                 have d1 := hf6.cell (p := ⟨b2, o2 + k * 3 + 1, none⟩) d1 (fun h => h)
                 have d2 := hf6.cell (p := ⟨b2, o2 + k * 3 + 2, none⟩) d2 (fun h => h)
                 have t0 := hf6.cell (p := ⟨D, 0, none⟩) t0 (fun h => h)
                 have t1 := hf6.cell (p := ⟨D, 0 + 1, none⟩) t1 (fun h => h)
                 have t2 := hf6.cell (p := ⟨D, 0 + 2, none⟩) t2 (fun h => h)
                 have hfr3 := hfr3.trans hf6
                 clear hf6)
              | (go_at_call 13; refine (HRR.out _).mono ?_; intro e w6 hret; obtain ⟨rfl, hf6⟩ := hret
                 have d0 := hf6.cell (p := ⟨b2, o2 + k * 3, none⟩) d0 (fun h => h)
                 have d1 := hf6.cell (p := ⟨b2, o2 + k * 3 + 1, none⟩) d1 (fun h => h)
                 have d2 := hf6.cell (p := ⟨b2, o2 + k * 3 + 2, none⟩) d2 (fun h => h)
                 have t0 := hf6.cell (p := ⟨D, 0, none⟩) t0 (fun h => h)
                 have t1 := hf6.cell (p := ⟨D, 0 + 1, none⟩) t1 (fun h => h)
                 have t2 := hf6.cell (p := ⟨D, 0 + 2, none⟩) t2 (fun h => h)
                 have hfr3 := hfr3.trans hf6
                 clear hf6))
          have HF6 := Lib.hid hfr3
          clear hfr3
          go_wp2_with fail
          go_roundw
          case rel => exact ⟨k + 1, by simp, by omega, HF6.out⟩
          case measure => simp [intOf]; omega
      · have r0 := HR.out.cell p0 (fun h => h)
        have r1 := HR.out.cell p1 (fun h => h)
        have hfr := HF2.out.trans HR.out
        have HF3 := Lib.hid hfr
        have HO3 := Lib.hid (HO2.out.keep HR.out fun _ _ h => h)
        have HI3 := Lib.hid (HI.out.keep hfr fun _ _ h => h)
        clear hfr p0 p1 HF2 HR HO2 HI
        cases hall : allO q l with
        | false =>
          have hE : errO (allO q l) = .int .i64 100 := by rw [hall]; rfl
          have hB : bytesO q l = [] := by unfold bytesO; rw [hall]; rfl
          have hL : lastO q l = 0 := by unfold lastO; rw [hall]; rfl
          have hK : keysO q l = [] := by unfold keysO; rw [hall]; rfl
          have hK0 : (if allO q l = true then l.length else 0) = 0 := by rw [hall]; rfl
          unfold BytesR at HBY
          unfold KeysR at HKE
          rw [hE] at HCH HBY
          rw [hB] at HBY HSI
          rw [hL] at HLA
          rw [hK, hK0] at HKE
          rw [hall] at HAL
          have hz : (([] : List UInt8).length : Int) = 0 := rfl
          rw [hz] at HSI
          clear hE hB hL hK hK0 hall hz HRB HQN HPL HPL2 HSM HRF
          go_wp2_with fail
          refine (HBY.out wr HF3.out).mono ?_
          rintro e w4 ⟨v4, rfl, hrow4, hf4⟩
          obtain ⟨a4, c4, rfl, _, _, _⟩ := hrow4.form
          have r0 := hf4.cell r0 (fun h => h)
          have r1 := hf4.cell r1 (fun h => h)
          have HF4 := Lib.hid (HF3.out.trans hf4)
          have HO4 := Lib.hid (HO3.out.keep hf4 fun _ _ h => h)
          clear hrow4 hf4 HF3 HO3 HBY
          go_wp2_with fail
          refine (HAL.out a2 c2 w4 _ HO4.out).mono ?_
          rintro e w5 ⟨rfl, hf5⟩
          have r0 := hf5.cell r0 (fun h => h)
          have r1 := hf5.cell r1 (fun h => h)
          have HF5 := Lib.hid (HF4.out.trans hf5)
          clear hf5 HF4 HAL HO4
          go_wp2_with fail
          refine (HCH.out w5 HF5.out).mono ?_
          rintro e w6 ⟨rfl, hf6⟩
          have r0 := hf6.cell r0 (fun h => h)
          have r1 := hf6.cell r1 (fun h => h)
          have HF6 := Lib.hid (HF5.out.trans hf6)
          clear hf6 HF5 HCH
          go_wp2_with fail
          refine (HSI.out w6 HF6.out).mono ?_
          rintro e w7 ⟨rfl, hf7⟩
          have r0 := hf7.cell r0 (fun h => h)
          have r1 := hf7.cell r1 (fun h => h)
          have HF7 := Lib.hid (HF6.out.trans hf7)
          clear hf7 HF6 HSI
          go_wp2_with fail
          refine (HLA.out w7 HF7.out).mono ?_
          rintro e w8 ⟨rfl, hf8⟩
          have r0 := hf8.cell r0 (fun h => h)
          have r1 := hf8.cell r1 (fun h => h)
          have HF8 := Lib.hid (HF7.out.trans hf8)
          clear hf8 HF7 HLA
          go_wp2_with fail
          refine (HKE.out w8 HF8.out).mono ?_
          rintro e w9 ⟨v9, rfl, hrow9, hf9⟩
          obtain ⟨a9, c9, rfl, _⟩ := hrow9.form
          have HF9 := Lib.hid (HF8.out.trans hf9)
          clear hf9 hrow9 HF8 HKE r0 r1
          go_wp2_with fail
          refine (awake10_c HH.out _).mono ?_
          rintro e w10 ⟨rfl, hf10⟩
          have HF10 := Lib.hid (HF9.out.trans hf10)
          clear hf10
          go_wp2_with fail
          go_ret
          exact ⟨rfl, HF10.out⟩
        | true =>
          have hE : errO (allO q l) = .int .i64 0 := by rw [hall]; rfl
          obtain ⟨b1, b2⟩ := bytesO_len hall
          have hn1 := HPL.out hall
          have hn64 := HPL2.out hall
          have hqn := HQN.out hall
          have hXB : batchB q.toNat l = bytesO q l := by unfold bytesO; rw [hall, if_pos rfl]
          have HRB := Lib.hid (HRB.out hall)
          rw [hqn, hXB] at HRB
          have HPS := Lib.hid (fun (w w' : World) (e : Ending) (hp : ParseR (bytesO q l) w e w') => parse_same hall hp)
          have HPA := Lib.hid (fun (g : Option Addr) (m c : Nat) (w' : World) (hm : (bytesO q l).length = m) (hc : m ≤ c) (hc' : c ≤ maxLen) (hm' : m ≤ 1000000) (hr : Rd w' g (bytesO q l)) => HH.out.parse g c m (bytesO q l) w' hm hc hc' hm' hr)
          unfold BytesR at HBY
          rw [hE] at HCH HBY
          rw [hall] at HAL
          rw [HN.out] at HPS
          obtain ⟨X, hX⟩ : ∃ X, bytesO q l = X := ⟨_, rfl⟩
          rw [hX] at b1 b2 HPS HPA HBY HSI HRB
          obtain ⟨m, hm⟩ : ∃ m, X.length = m := ⟨_, rfl⟩
          rw [hm] at b1 b2 HSI
          have HM := Lib.hid hm
          clear hE hall hX hqn hXB HQN HPL HPL2 HRF HLA HKE hm
          go_wp2_with fail
          refine (HBY.out wr HF3.out).mono ?_
          rintro e w4 ⟨v4, rfl, hrow4, hf4⟩
          obtain ⟨a4, c4, rfl, k1, k2, hin4⟩ := hrow4.form
          have r0 := hf4.cell r0 (fun h => h)
          have r1 := hf4.cell r1 (fun h => h)
          have HF4 := Lib.hid (HF3.out.trans hf4)
          have HO4 := Lib.hid (HO3.out.keep hf4 fun _ _ h => h)
          have HI4 := Lib.hid (HI3.out.keep hf4 fun _ _ h => h)
          have HRD4 := Lib.hid hin4.rd
          rw [HM.out] at k1 ⊢
          have HK1 := Lib.hid k1
          have HK2 := Lib.hid k2
          clear hrow4 hf4 HF3 HO3 HBY HI3 hin4 k1 k2
          go_wp2_with fail
          refine (HAL.out a2 c2 w4 _ HO4.out).mono ?_
          rintro e w5 ⟨rfl, hf5⟩
          have r0 := hf5.cell r0 (fun h => h)
          have r1 := hf5.cell r1 (fun h => h)
          have HF5 := Lib.hid (HF4.out.trans hf5)
          have HO5 := Lib.hid (HO4.out.keep hf5 fun _ _ h => h)
          have HI5 := Lib.hid (HI4.out.keep hf5 fun _ _ h => h)
          have HRD5 := Lib.hid (HRD4.out.keep hf5)
          clear hf5 HF4 HAL HO4 HI4 HRD4
          go_wp2_with fail
          refine (HCH.out w5 HF5.out).mono ?_
          rintro e w6 ⟨rfl, hf6⟩
          have r0 := hf6.cell r0 (fun h => h)
          have r1 := hf6.cell r1 (fun h => h)
          have HF6 := Lib.hid (HF5.out.trans hf6)
          have HO6 := Lib.hid (HO5.out.keep hf6 fun _ _ h => h)
          have HI6 := Lib.hid (HI5.out.keep hf6 fun _ _ h => h)
          have HRD6 := Lib.hid (HRD5.out.keep hf6)
          clear hf6 HF5 HCH HO5 HI5 HRD5
          go_wp2_with fail
          refine (HRB.out a2 c2 w6 _ HO6.out).mono ?_
          rintro e w7 ⟨v7, rfl, hrow7, hf7⟩
          obtain ⟨a7, c7, rfl, _, _, hin7⟩ := hrow7.form
          rw [HM.out]
          have HRD7b := Lib.hid hin7.rd
          have r0 := hf7.cell r0 (fun h => h)
          have r1 := hf7.cell r1 (fun h => h)
          have HF7 := Lib.hid (HF6.out.trans hf7)
          have HI7 := Lib.hid (HI6.out.keep hf7 fun _ _ h => h)
          have HRD7 := Lib.hid (HRD6.out.keep hf7)
          clear hf7 HF6 HRB HO6 HI6 HRD6 hrow7 hin7
          go_wp2_with fail
          refine (same_yes (l := X) (l' := X) HM.out HM.out HRD7.out HRD7b.out rfl).mono ?_
          rintro e w8 ⟨rfl, rfl⟩
          go_wp2_with fail
          refine (HSI.out w7 HF7.out).mono ?_
          rintro e w8 ⟨rfl, hf8⟩
          have r0 := hf8.cell r0 (fun h => h)
          have r1 := hf8.cell r1 (fun h => h)
          have HF8 := Lib.hid (HF7.out.trans hf8)
          have HI8 := Lib.hid (HI7.out.keep hf8 fun _ _ h => h)
          have HRD8 := Lib.hid (HRD7.out.keep hf8)
          clear hf8 HF7 HSI HI7 HRD7 HRD7b
          go_wp2_with fail
          refine (HPA.out a4 m c4 w8 HM.out HK1.out HK2.out b2 HRD8.out).mono ?_
          intro e w9 hp9
          obtain ⟨hf9, v9, rfl, hrow9⟩ := HPS.out _ _ _ hp9
          obtain ⟨a9, c9, rfl, _⟩ := hrow9.form
          have r0 := hf9.cell r0 (fun h => h)
          have r1 := hf9.cell r1 (fun h => h)
          obtain ⟨W9, hW9, hfW9, s0, s1⟩ := box_batch w9 q (.slice a9 n c9)
          have r0 := hfW9.cell r0 (fun h => h)
          have r1 := hfW9.cell r1 (fun h => h)
          have HF9 := Lib.hid (HF8.out.trans (hf9.trans hfW9))
          have HI9 := Lib.hid (HI8.out.keep (hf9.trans hfW9) fun _ _ h => h)
          have HO9 := Lib.hid ((hrow9.opsN HN.out).keep hfW9 fun _ _ h => h)
          have HW9 := Lib.hid hW9
          have hn6 : n ≤ 1000000 := by omega
          clear hf9 hfW9 hW9 hrow9 hp9 HPA HPS HF8 HI8 HRD8
          rw [← HW9.out] at r0 r1 s0 s1
          go_wp2_with fail
          rw [HW9.out]
          refine (HSM.out a9 c9 W9 _ _ hn6 HI9.out HO9.out).mono ?_
          rintro e w10 ⟨rfl, hf10⟩
          have HF10 := Lib.hid (HF9.out.trans hf10)
          clear hf10
          go_wp2_with fail
          refine (awake10_c HH.out _).mono ?_
          rintro e w11 ⟨rfl, hf11⟩
          have HF11 := Lib.hid (HF10.out.trans hf11)
          clear hf11
          go_wp2_with fail
          go_ret
          exact ⟨rfl, HF11.out⟩
theorem batchChecks_walk (H : BatchOK) (w : World) (q : Int) (wq : (Lit.int .i64 q).wf = true) (a : Option Addr) (ca : Nat) (l : List Op10) (h1 : l.length ≤ ca) (h2 : ca ≤ maxLen) (hi : Ops w (fun _ => True) a l) (hwf : ∀ x ∈ l, OpWf x) :
    Calls Try.prog 3 #[.agg #[.int .i64 q, .slice a l.length ca]] w fun e w' => e = .returned (.bool true) ∧ Below w.heap.size w w' := (bchecks_c H w q a ca l wq h1 h2 hi hwf).mono fun _ _ h => h.below
end Go.Proofs.Ytidfjcaajejfoaa
