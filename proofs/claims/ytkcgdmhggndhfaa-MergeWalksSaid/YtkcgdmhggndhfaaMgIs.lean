/-
  Layer 6: the walk of MergeIs, over the contracts of Check and Merge.
-/
import Derived.Test.YtkcgdmhggndhfaaMgX
namespace Go.Proofs.Ytkcgdmhggndhfaa
set_option linter.unusedVariables false
open Go.RowKit

theorem lens_len {rs qs : List Rn} (h : lens qs = lens rs) : qs.length = rs.length := by
  have := congrArg List.length h
  simpa [lens] using this
theorem lens_at {rs qs : List Rn} (h : lens qs = lens rs) {j : Nat} {x y : Rn} (hx : rs[j]? = some x) (hy : qs[j]? = some y) : y.l = x.l := by
  have e : (lens qs)[j]? = (lens rs)[j]? := by rw [h]
  unfold lens at e
  rw [List.getElem?_map, List.getElem?_map, hx, hy] at e
  exact Option.some.inj e
theorem lens_mem {rs qs : List Rn} (h : lens qs = lens rs) {n : Nat} (hn : ∀ x ∈ rs, x.l.length ≤ n) : ∀ y ∈ qs, y.l.length ≤ n := fun y hy => by
  have : y.l ∈ lens rs := h ▸ List.mem_map_of_mem hy
  obtain ⟨x, hx, e⟩ := List.mem_map.1 this
  rw [← e]
  exact hn x hx
theorem lens_runs {rs qs : List Rn} (h : lens qs = lens rs) : runsR qs = runsR rs := by rw [runsR_lens, runsR_lens, h]
set_option maxRecDepth 20000 in
set_option maxHeartbeats 4000000 in
theorem mergeIs_walk (M : MergeOK) (W : World) (a : Option Addr) (cap : Nat) (rs : List Rn) (hc : rs.length ≤ cap) (hm : cap ≤ maxLen) (rd : InR W (Till W.heap.size) a rs) :
    Calls Try.prog 3 #[.slice a rs.length cap] W fun e w' => e = .returned (.bool true) ∧ Below W.heap.size W w' := by
  have HM := Lib.hid M
  have HRD := Lib.hid rd
  have HCM := Lib.hid hm
  have HC := Lib.hid hc
  unfold maxLen at hm
  have HSM := Lib.hid (small_c _ a cap rs W hc HCM.out rd)
  have fin : ∀ w' : World, Fr No W w' → Below W.heap.size W w' := fun w' f => f.below (Nat.le_refl _) (fun _ h => h.elim)
  have FIN := Lib.hid fin
  clear fin rd
  cases hsm : smallR rs with
  | false =>
    rw [hsm] at HSM
    clear hsm
    generalize rs.length = n at *
    go_enter Try.func3, Try.ntmps3
    go_wp2_with fail
    refine HSM.out.mono ?_
    rintro e w1 ⟨rfl, rfl⟩
    go_wp2_with fail
    refine (awake_c HM.out _).mono ?_
    rintro e w2 ⟨rfl, f2⟩
    have HF2 := Lib.hid f2
    clear f2
    go_wp2_with fail
    go_ret
    exact ⟨rfl, FIN.out _ HF2.out⟩
  | true =>
    rw [hsm] at HSM
    have HSR := Lib.hid hsm
    obtain ⟨hl, hs⟩ := smallR_le hsm
    have HS := Lib.hid hs
    have HALL := Lib.hid (all_c _ a cap rs W (by omega) (fun x hx => Nat.le_trans (hs x hx) (by omega)) hc HCM.out HRD.out)
    clear hsm hs
    obtain ⟨n, hn⟩ : ∃ n, rs.length = n := ⟨_, rfl⟩
    rw [hn] at hc hl HSM HALL
    rw [hn]
    have HN := Lib.hid hn
    clear hn
    go_enter Try.func3, Try.ntmps3
    go_wp2_with fail
    refine HSM.out.mono ?_
    rintro e w1 ⟨rfl, rfl⟩
    go_wp2_with fail
    refine HALL.out.mono ?_
    rintro e w2 ⟨qa, qc, qs, rfl, hqc, hqm, hqs, hq, f2⟩
    have HQS := Lib.hid hqs
    have HF2 := Lib.hid f2
    have hqn : qs.length = n := (lens_len hqs).trans HN.out
    have HME := HM.out.merge _ qa qc qs w2 (by omega) (lens_mem hqs (fun x hx => Nat.le_trans (HS.out x hx) (by omega))) hqc hqm hq
    have HQ := Lib.hid hq
    unfold maxLen at hqm
    rw [hqn] at hqc HME
    rw [hqn]
    have HME := Lib.hid HME
    have HQN := Lib.hid hqn
    clear hqs f2 hqn hq
    go_wp2_with fail
    refine HME.out.mono ?_
    rintro e w3 ⟨lb, lc, ll, rfl, hlc, hlm, hin, hll, f3⟩
    rw [lens_runs HQS.out, HQS.out] at hll
    rw [lens_runs HQS.out]
    have HF3 := Lib.hid (HF2.out.trans f3)
    have HQ3 := Lib.hid (HQ.out.keep f3 (fun _ _ h => h))
    have HR3 := Lib.hid (HRD.out.keep HF3.out (fun _ _ h => h))
    have HL3 := Lib.hid hin
    have HLL := Lib.hid hll
    have HLC := Lib.hid hlc
    have HLM := Lib.hid hlm
    unfold maxLen at hlm
    clear f3 hin hll
    obtain ⟨ln, hln⟩ : ∃ z, ll.length = z := ⟨_, rfl⟩
    rw [hln] at hlc
    rw [hln]
    have HLN := Lib.hid hln
    clear hln
    obtain ⟨ok, hok⟩ : ∃ z, okN (runsR rs) = z := ⟨_, rfl⟩
    rw [hok]
    have HOK := Lib.hid hok
    clear hok
    go_wp2_with fail
    go_loopw [21] (fun i wr => ∃ j : Nat, i = .int .i64 j ∧ j ≤ n ∧ Fr No w3 wr) (fun i _ => n - (intOf i).toNat)
    case atStart => exact ⟨0, rfl, Nat.zero_le _, Fr.refl _ _⟩
    case round =>
      obtain ⟨j, rfl, hj, hfr⟩ := hrel
      have HF := Lib.hid hfr
      clear hfr
      by_cases h1 : j < n
      · have d1 : decide ((j : Int) < (n : Int)) = true := by rw [decide_eq_true_eq]; omega
        obtain ⟨x, hx0⟩ : ∃ x, rs[j]? = some x := ⟨_, List.getElem?_eq_getElem (by rw [HN.out]; exact h1)⟩
        obtain ⟨y, hy0⟩ : ∃ x, qs[j]? = some x := ⟨_, List.getElem?_eq_getElem (by rw [HQN.out]; exact h1)⟩
        have hxy := lens_at HQS.out hx0 hy0
        obtain ⟨b, o, _, rfl, hx⟩ := HR3.out (by rw [HN.out]; omega)
        obtain ⟨b', o', _, rfl, hy⟩ := HQ3.out (by rw [HQN.out]; omega)
        have X := hx j x hx0
        have Y := hy j y hy0
        have hx40 := HS.out x (List.mem_of_getElem? hx0)
        have C1 : Hid (∀ w, Fr No w3 w → w.cell? ⟨b, o + j, none⟩ = some (.slice x.a x.l.length x.c) ∧ w.cell? ⟨b', o' + j, none⟩ = some (.slice y.a x.l.length y.c)) := Lib.hid fun w f => ⟨f.cell X.c0 (fun h => h), by rw [← hxy]; exact f.cell Y.c0 (fun h => h)⟩
        have CK : Hid (∀ w, Fr No w3 w → Calls Try.prog 13 #[.slice y.a x.l.length y.c] w fun e w' => e = .returned (.int .i64 (okN (runP x.l))) ∧ Fr No w w') := Lib.hid fun w f => by
          have := HM.out.check _ y.a y.c y.l w (by rw [hxy]; omega) Y.le Y.cm (Y.rd.keep f (fun _ _ h => h))
          rw [hxy] at this
          exact this
        have RU : Hid (∀ w, Fr No w3 w → Calls Try.prog 14 #[.slice x.a x.l.length x.c] w fun e w' => e = .returned (.bool (runP x.l)) ∧ Fr No w w') := Lib.hid fun w f => refRun_c _ x.a x.c x.l w (by omega) (X.rd.keep f (fun _ _ h => h))
        have SA : Hid (∀ w, Fr No w3 w → Calls Try.prog 15 #[.slice y.a x.l.length y.c, .slice x.a x.l.length x.c] w fun e w' => e = .returned (.bool true) ∧ Fr No w w') := Lib.hid fun w f => same_yes _ _ y.a x.a y.c x.c x.l w (by omega) (by rw [← hxy]; exact Y.rd.keep f (fun _ _ h => h)) (X.rd.keep f (fun _ _ h => h))
        clear hx hy X Y hx0 hy0 hxy hx40
        generalize x.l.length = m at *
        generalize x.a = xa at *
        generalize x.c = xc at *
        generalize y.a = ya at *
        generalize y.c = yc at *
        generalize runP x.l = R at *
        obtain ⟨c1, c2⟩ := C1.out wr HF.out
        go_wp2_with fail
        refine (CK.out wr HF.out).mono ?_
        rintro e w4 ⟨rfl, f4⟩
        have HF4 := Lib.hid (HF.out.trans f4)
        obtain ⟨c3, c4⟩ := C1.out w4 HF4.out
        clear f4 c1 c2
        cases R with
        | true =>
          rw [show okN true = 0 from rfl]
          go_wp2_with fail
          refine (RU.out w4 HF4.out).mono ?_
          rintro e w5 ⟨rfl, f5⟩
          have HF5 := Lib.hid (HF4.out.trans f5)
          obtain ⟨c5, c6⟩ := C1.out w5 HF5.out
          clear f5 c3 c4
          go_wp2_with fail
          refine (SA.out w5 HF5.out).mono ?_
          rintro e w6 ⟨rfl, f6⟩
          have HF6 := Lib.hid (HF5.out.trans f6)
          clear f6 c5 c6
          go_wp2_with fail
          go_roundw
          case rel => exact ⟨j + 1, by simp, by omega, HF6.out⟩
          case measure => simp [intOf]; omega
        | false =>
          rw [show okN false = 31 from rfl]
          go_wp2_with fail
          refine (RU.out w4 HF4.out).mono ?_
          rintro e w5 ⟨rfl, f5⟩
          have HF5 := Lib.hid (HF4.out.trans f5)
          obtain ⟨c5, c6⟩ := C1.out w5 HF5.out
          clear f5 c3 c4
          go_wp2_with fail
          refine (SA.out w5 HF5.out).mono ?_
          rintro e w6 ⟨rfl, f6⟩
          have HF6 := Lib.hid (HF5.out.trans f6)
          clear f6 c5 c6
          go_wp2_with fail
          go_roundw
          case rel => exact ⟨j + 1, by simp, by omega, HF6.out⟩
          case measure => simp [intOf]; omega
      · obtain rfl : j = n := by omega
        have d1 : decide ((j : Int) < (j : Int)) = false := by simp
        have HRU := refRuns_c _ a cap rs wr HC.out HCM.out (fun x hx => Nat.le_trans (HS.out x hx) (by omega)) (HR3.out.keep HF.out (fun _ _ h => h))
        rw [HN.out] at HRU
        cases hR : runsR rs with
        | false =>
          rw [hR] at HRU
          have e1 : ok = 31 := by rw [← HOK.out, hR]; rfl
          have e2 : ln = 0 := by rw [← HLN.out, HLL.out, hR]; rfl
          subst e1 e2
          have HRU := Lib.hid HRU
          clear hR
          go_wp2_with fail
          refine HRU.out.mono ?_
          rintro e w4 ⟨rfl, f4⟩
          have HF4 := Lib.hid (HF.out.trans f4)
          clear f4
          go_wp2_with fail
          refine (awake_c HM.out _).mono ?_
          rintro e w5 ⟨rfl, f5⟩
          have HF5 := Lib.hid ((HF3.out.trans HF4.out).trans f5)
          clear f5
          go_wp2_with fail
          go_ret
          exact ⟨rfl, FIN.out _ HF5.out⟩
        | true =>
          rw [hR] at HRU
          have e1 : ok = 0 := by rw [← HOK.out, hR]; rfl
          have e2 : ll = oneP (lens rs) := by rw [HLL.out, hR]; rfl
          subst e1
          have HRU := Lib.hid HRU
          have HE2 := Lib.hid e2
          have hlb : ln ≤ 400 := by
            rw [← HLN.out, e2]
            have key : ∀ (ls : List (List P2)) (out : List P2), (∀ l ∈ ls, l.length ≤ 40) → (ls.foldl oneRun out).length ≤ out.length + 40 * ls.length := by
              intro ls
              induction ls with
              | nil => intro out _; exact Nat.le_refl _
              | cons l ls ih =>
                intro out h
                have h1 := oneRun_le l out
                have h2 := h l (List.mem_cons_self ..)
                have h3 := ih (oneRun out l) (fun m hm => h m (List.mem_cons_of_mem _ hm))
                show (ls.foldl oneRun (oneRun out l)).length ≤ _
                rw [List.length_cons]
                omega
            have := key (lens rs) [] (fun m hm => by
              obtain ⟨x, hx, e⟩ := List.mem_map.1 hm
              rw [← e]
              exact HS.out x hx)
            have h5 : (lens rs).length = j := by unfold lens; rw [List.length_map, HN.out]
            rw [h5, List.length_nil] at this
            show (oneP (lens rs)).length ≤ 400
            unfold oneP
            omega
          clear hR e2
          have ONE : Hid (∀ w, Fr No w3 w → Calls Try.prog 17 #[.slice a j cap] w fun e w' => ∃ u, e = .returned u ∧ PairsV w.heap.size (oneP (lens rs)) u w' ∧ Fr No w w') := Lib.hid fun w f => by
            have := refOne_c _ a cap rs w HSR.out HC.out HCM.out (HR3.out.keep f (fun _ _ h => h))
            rw [HN.out] at this
            exact this
          have CKL : Hid (∀ w, Fr No w3 w → Calls Try.prog 13 #[.slice lb ln lc] w fun e w' => e = .returned (.int .i64 0) ∧ Fr No w w') := Lib.hid fun w f => by
            have := HM.out.check _ lb lc ll w (by rw [HLN.out]; omega) HLC.out HLM.out (HL3.out.keep f (fun _ _ h => h))
            rw [HLN.out, HE2.out, runP_iff.2 (oneP_sort _)] at this
            exact this
          go_wp2_with fail
          refine HRU.out.mono ?_
          rintro e w4 ⟨rfl, f4⟩
          have HF4 := Lib.hid (HF.out.trans f4)
          clear f4
          go_wp2_with fail
          refine (ONE.out w4 HF4.out).mono ?_
          rintro e w5 ⟨u, rfl, ⟨oa, oc, rfl, ole, ocm, oin⟩, f5⟩
          have HF5 := Lib.hid (HF4.out.trans f5)
          have HSA := same_yes _ _ lb oa lc oc ll w5 (by rw [HLN.out]; omega) (HL3.out.keep HF5.out (fun _ _ h => h)) (by rw [HE2.out]; exact oin)
          rw [HLN.out] at HSA
          have eln : (oneP (lens rs)).length = ln := by rw [← HE2.out]; exact HLN.out
          rw [eln]
          have HSA := Lib.hid HSA
          clear f5 oin ole ocm eln
          go_wp2_with fail
          refine HSA.out.mono ?_
          rintro e w6 ⟨rfl, f6⟩
          have HF6 := Lib.hid (HF5.out.trans f6)
          clear f6
          go_wp2_with fail
          refine (CKL.out w6 HF6.out).mono ?_
          rintro e w7 ⟨rfl, f7⟩
          have HF7 := Lib.hid (HF6.out.trans f7)
          clear f7
          go_wp2_with fail
          refine (awake_c HM.out _).mono ?_
          rintro e w8 ⟨rfl, f8⟩
          have HF8 := Lib.hid ((HF3.out.trans HF7.out).trans f8)
          clear f8
          go_wp2_with fail
          go_ret
          exact ⟨rfl, FIN.out _ HF8.out⟩
end Go.Proofs.Ytkcgdmhggndhfaa
