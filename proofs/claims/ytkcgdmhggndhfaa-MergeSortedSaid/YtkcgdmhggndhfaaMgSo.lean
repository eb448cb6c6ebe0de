/-
  Layer 6: the walk of MergeSorted, over the contracts of Check, Merge and Find.
-/
import Derived.Test.YtkcgdmhggndhfaaMgIs
namespace Go.Proofs.Ytkcgdmhggndhfaa
set_option linter.unusedVariables false
open Go.RowKit

theorem getP_append (l m : List P2) (k : Int) : getP (l ++ m) k = (getP l k).or (getP m k) := by
  induction l with
  | nil => rw [List.nil_append, getP_nil, Option.none_or]
  | cons x xs ih =>
    rw [List.cons_append, getP_cons, getP_cons, ih]
    by_cases h : x.1 = k
    · rw [if_pos h, if_pos h]; rfl
    · rw [if_neg h, if_neg h]
theorem getP_take (l : List P2) (t : Nat) (h : t < l.length) (k : Int) : getP (l.take (t + 1)) k = (getP (l.take t) k).or (if (l.getD t p20).1 = k then some (l.getD t p20).2 else none) := by
  rw [take_p2 l t h, getP_append, getP_cons, getP_nil]
theorem firstP_append (ls ms : List (List P2)) (k : Int) : firstP (ls ++ ms) k = (firstP ls k).or (firstP ms k) := by
  induction ls with
  | nil => rw [List.nil_append, firstP_nil, Option.none_or]
  | cons l ls ih => rw [List.cons_append, firstP_cons, firstP_cons, ih, Option.or_assoc]
theorem firstP_take (rs : List Rn) (j : Nat) (x : Rn) (h : rs[j]? = some x) (k : Int) : firstP ((lens rs).take (j + 1)) k = (firstP ((lens rs).take j) k).or (getP x.l k) := by
  rw [lens_take rs j x h, firstP_append, firstP_cons, firstP_nil, Option.or_none]
theorem firstP_some {ls : List (List P2)} {l : List P2} (hl : l ∈ ls) {k : Int} (h : hasP l k = true) : (firstP ls k).isSome = true := by
  induction ls with
  | nil => cases hl
  | cons m ms ih =>
    rw [firstP_cons]
    rcases List.mem_cons.1 hl with rfl | hl
    · rw [hasP_get] at h
      cases e : getP l k with
      | none => rw [e] at h; cases h
      | some v => rfl
    · have := ih hl
      cases getP m k with
      | some v => rfl
      | none => exact this
/-- How 'value, ok' stand. -/
def fndV (o : Option Int) : Value := .int .i64 (o.getD 0)
def fndB (o : Option Int) : Value := .bool o.isSome
set_option maxRecDepth 20000 in
set_option maxHeartbeats 4000000 in
theorem mergeSorted_walk (M : MergeOK) (W : World) (a : Option Addr) (cap : Nat) (rs : List Rn) (hc : rs.length ≤ cap) (hm : cap ≤ maxLen) (rd : InR W (Till W.heap.size) a rs) :
    Calls Try.prog 7 #[.slice a rs.length cap] W fun e w' => e = .returned (.bool true) ∧ Below W.heap.size W w' := by
  have HM := Lib.hid M
  have HRD := Lib.hid rd
  have HCM := Lib.hid hm
  have HC := Lib.hid hc
  unfold maxLen at hm
  have HSM := Lib.hid (small_c _ a cap rs W hc HCM.out rd)
  have fin : ∀ w' : World, Fr No W w' → Below W.heap.size W w' := fun w' f => f.below (Nat.le_refl _) (fun _ h => h.elim)
  have FIN := Lib.hid fin
  clear fin rd
  cases hsm : smallR rs with
  | false =>
    rw [hsm] at HSM
    clear hsm
    generalize rs.length = n at *
    go_enter Try.func7, Try.ntmps7
    go_wp2_with fail
    refine HSM.out.mono ?_
    rintro e w1 ⟨rfl, rfl⟩
    go_wp2_with fail
    refine (awake_c HM.out _).mono ?_
    rintro e w2 ⟨rfl, f2⟩
    have HF2 := Lib.hid f2
    clear f2
    go_wp2_with fail
    go_ret
    exact ⟨rfl, FIN.out _ HF2.out⟩
  | true =>
    rw [hsm] at HSM
    have HSR := Lib.hid hsm
    obtain ⟨hl, hs⟩ := smallR_le hsm
    have HS := Lib.hid hs
    have HRU := refRuns_c _ a cap rs W HC.out HCM.out (fun x hx => Nat.le_trans (HS.out x hx) (by omega)) HRD.out
    have HALL : Hid (∀ w, Fr No W w → Calls Try.prog 11 #[.slice a rs.length cap] w fun e w' => ∃ b c rs', e = .returned (.slice b rs'.length c) ∧ rs'.length ≤ c ∧ c ≤ maxLen ∧ lens rs' = lens rs ∧ InR w' (From w.heap.size) b rs' ∧ Fr No w w') := Lib.hid fun w f => all_c _ a cap rs w (by omega) (fun x hx => Nat.le_trans (hs x hx) (by omega)) hc HCM.out (HRD.out.keep f (fun _ _ h => h))
    clear hsm hs
    obtain ⟨n, hn⟩ : ∃ n, rs.length = n := ⟨_, rfl⟩
    rw [hn] at hc hl HSM HALL HRU
    rw [hn]
    have HN := Lib.hid hn
    clear hn
    cases hR : runsR rs with
    | false =>
      rw [hR] at HRU
      have HRU := Lib.hid HRU
      clear hR
      go_enter Try.func7, Try.ntmps7
      go_wp2_with fail
      refine HSM.out.mono ?_
      rintro e w1 ⟨rfl, rfl⟩
      go_wp2_with fail
      refine HRU.out.mono ?_
      rintro e w1 ⟨rfl, f1⟩
      have HF1 := Lib.hid f1
      clear f1
      go_wp2_with fail
      refine (awake_c HM.out _).mono ?_
      rintro e w2 ⟨rfl, f2⟩
      have HF2 := Lib.hid (HF1.out.trans f2)
      clear f2
      go_wp2_with fail
      go_ret
      exact ⟨rfl, FIN.out _ HF2.out⟩
    | true =>
      rw [hR] at HRU
      have HRU := Lib.hid HRU
      have HRR := Lib.hid hR
      clear hR
      go_enter Try.func7, Try.ntmps7
      go_wp2_with fail
      refine HSM.out.mono ?_
      rintro e w1 ⟨rfl, rfl⟩
      go_wp2_with fail
      refine HRU.out.mono ?_
      rintro e w1 ⟨rfl, f1⟩
      have HF1 := Lib.hid f1
      clear f1
      go_wp2_with fail
      refine (HALL.out w1 HF1.out).mono ?_
      rintro e w2 ⟨qa, qc, qs, rfl, hqc, hqm, hqs, hq, f2⟩
      have HQS := Lib.hid hqs
      have HF2 := Lib.hid (HF1.out.trans f2)
      have hqn : qs.length = n := (lens_len hqs).trans HN.out
      have HME := HM.out.merge _ qa qc qs w2 (by omega) (lens_mem hqs (fun x hx => Nat.le_trans (HS.out x hx) (by omega))) hqc hqm hq
      unfold maxLen at hqm
      rw [hqn] at hqc HME
      rw [hqn]
      have HME := Lib.hid HME
      clear hqs f2 hqn hq
      go_wp2_with fail
      refine HME.out.mono ?_
      rintro e w3 ⟨lb, lc, ll, rfl, hlc, hlm, hin, hll, f3⟩
      rw [lens_runs HQS.out, HRR.out, HQS.out] at hll
      rw [lens_runs HQS.out, HRR.out, show okN true = 0 from rfl]
      have hll : ll = oneP (lens rs) := hll
      have hlb : ll.length ≤ 400 := by
        rw [hll]
        have key : ∀ (ls : List (List P2)) (out : List P2), (∀ l ∈ ls, l.length ≤ 40) → (ls.foldl oneRun out).length ≤ out.length + 40 * ls.length := by
          intro ls
          induction ls with
          | nil => intro out _; exact Nat.le_refl _
          | cons l ls ih =>
            intro out h
            have h1 := oneRun_le l out
            have h2 := h l (List.mem_cons_self ..)
            have h3 := ih (oneRun out l) (fun m hm => h m (List.mem_cons_of_mem _ hm))
            show (ls.foldl oneRun (oneRun out l)).length ≤ _
            rw [List.length_cons]
            omega
        have := key (lens rs) [] (fun m hm => by
          obtain ⟨x, hx, e⟩ := List.mem_map.1 hm
          rw [← e]
          exact HS.out x hx)
        have h5 : (lens rs).length = n := by unfold lens; rw [List.length_map, HN.out]
        rw [h5, List.length_nil] at this
        unfold oneP
        omega
      have HRL : Hid (runP ll = true) := Lib.hid (by rw [hll]; exact runP_iff.2 (oneP_sort _))
      have HF3 := Lib.hid (HF2.out.trans f3)
      have HR3 := Lib.hid (HRD.out.keep HF3.out (fun _ _ h => h))
      have HL3 := Lib.hid hin
      have HLL := Lib.hid hll
      have CKL := HM.out.check _ lb lc ll w3 (by omega) hlc hlm hin
      rw [HRL.out, show okN true = 0 from rfl] at CKL
      have FD : Hid (∀ w, Fr No w3 w → ∀ k, Calls Try.prog 18 #[.slice lb ll.length lc, .int .i64 k] w fun e w' => e = .returned (.tuple #[.int .i64 (ceilP ll k : Int), .bool (hasP ll k)]) ∧ Fr No w w') := Lib.hid fun w f k => HM.out.find _ lb lc ll k w (by omega) hlc hlm HRL.out (hin.keep f (fun _ _ h => h))
      unfold maxLen at hlm
      clear f3 hin hll
      obtain ⟨ln, hln⟩ : ∃ z, ll.length = z := ⟨_, rfl⟩
      rw [hln] at hlc hlb CKL FD
      rw [hln]
      have HLN := Lib.hid hln
      have CKL := Lib.hid CKL
      clear hln
      go_wp2_with fail
      refine CKL.out.mono ?_
      rintro e w4 ⟨rfl, f4⟩
      have HF4 := Lib.hid f4
      clear f4
      go_wp2_with fail
      go_loopw [43] (fun i wr => ∃ j : Nat, i = .int .i64 j ∧ j ≤ n ∧ Fr No w3 wr) (fun i _ => n - (intOf i).toNat)
      case atStart => exact ⟨0, rfl, Nat.zero_le _, HF4.out⟩
      case round =>
        obtain ⟨j, rfl, hj, hfr⟩ := hrel
        have HF := Lib.hid hfr
        clear hfr
        by_cases h1 : j < n
        · have d1 : decide ((j : Int) < (n : Int)) = true := by rw [decide_eq_true_eq]; omega
          obtain ⟨x, hx0⟩ : ∃ x, rs[j]? = some x := ⟨_, List.getElem?_eq_getElem (by rw [HN.out]; exact h1)⟩
          obtain ⟨b, o, _, rfl, hx⟩ := HR3.out (by rw [HN.out]; omega)
          have X := hx j x hx0
          have hx40 := HS.out x (List.mem_of_getElem? hx0)
          have c1 := HF.out.cell X.c0 (fun h => h)
          have xle := X.le
          have xcm := X.cm
          unfold maxLen at xcm
          have XE : Hid (∀ w, Fr No w3 w → ∀ t, t < x.l.length → ∃ g p, x.a = some ⟨g, p, none⟩ ∧ w.cell? ⟨g, p + t * 2, none⟩ = some (.int .i64 (x.l.getD t p20).1) ∧ w.cell? ⟨g, p + t * 2 + 1, none⟩ = some (.int .i64 (x.l.getD t p20).2)) := Lib.hid fun w f t ht => by
            obtain ⟨g, p, _, hg, hcl⟩ := X.rd (by omega)
            exact ⟨g, p, hg, f.cell (hcl t ht).1 (fun h => h), f.cell (hcl t ht).2 (fun h => h)⟩
          have XH : Hid (∀ t, t < x.l.length → hasP ll (x.l.getD t p20).1 = true) := Lib.hid fun t ht => by
            rw [HLL.out, hasP_get, oneP_get]
            exact firstP_some (List.mem_map_of_mem (List.mem_of_getElem? hx0)) (hasP_yes t ht (by simp))
          clear hx X hx0
          generalize x.l.length = m at *
          generalize x.a = xa at *
          generalize x.c = xc at *
          go_wp2_with fail
          clear c1
          go_loopw [49] (fun i wr => ∃ t : Nat, i = .int .i64 t ∧ t ≤ m ∧ Fr No w3 wr) (fun i _ => m - (intOf i).toNat)
          case atStart => exact ⟨0, rfl, Nat.zero_le _, HF.out⟩
          case round =>
            obtain ⟨t, rfl, ht, hfr⟩ := hrel
            have HF2' := Lib.hid hfr
            clear hfr
            by_cases h2 : t < m
            · have d2 : decide ((t : Int) < (m : Int)) = true := by rw [decide_eq_true_eq]; omega
              obtain ⟨g, p, rfl, q0, q1⟩ := XE.out wr HF2'.out t h2
              have hh := XH.out t h2
              generalize (x.l.getD t p20).1 = kx at *
              generalize (x.l.getD t p20).2 = ky at *
              have FA := Lib.hid ((HF2'.out).alloc (.cells #[.int .i64 kx, .int .i64 ky] 51))
              have FDX := FD.out _ FA.out kx
              rw [hh] at FDX
              have FDX := Lib.hid FDX
              clear hh
              go_wp2_with fail
              refine FDX.out.mono ?_
              rintro e w5 ⟨rfl, f5⟩
              have HF5 := Lib.hid (FA.out.trans f5)
              clear f5 q0 q1
              go_wp2_with fail
              go_roundw
              case rel => exact ⟨t + 1, by simp, by omega, HF5.out⟩
              case measure => simp [intOf]; omega
            · obtain rfl : t = m := by omega
              have d2 : decide ((t : Int) < (t : Int)) = false := by simp
              go_wp2_with fail
              go_roundw
              case rel => exact ⟨j + 1, by simp, by omega, HF2'.out⟩
              case measure => simp [intOf]; omega
        · obtain rfl : j = n := by omega
          have d1 : decide ((j : Int) < (j : Int)) = false := by simp
          go_wp2_with fail
          clear d1
          go_loopw [66] (fun i wr => ∃ y : Nat, i = .int .i64 y ∧ y ≤ ln ∧ Fr No w3 wr) (fun i _ => ln - (intOf i).toNat)
          case atStart => exact ⟨0, rfl, Nat.zero_le _, HF.out⟩
          case round =>
            obtain ⟨y, rfl, hy, hfr⟩ := hrel
            have HFY := Lib.hid hfr
            clear hfr
            by_cases h3 : y < ln
            · have d3 : decide ((y : Int) < (ln : Int)) = true := by rw [decide_eq_true_eq]; omega
              obtain ⟨g, p, _, rfl, hcl⟩ := HL3.out (by rw [HLN.out]; omega)
              obtain ⟨hk, hv⟩ := hcl y (by rw [HLN.out]; exact h3)
              have q0 := HFY.out.cell hk (fun h => h)
              have q1 := HFY.out.cell hv (fun h => h)
              have HGY : Hid (firstP (lens rs) (ll.getD y p20).1 = some (ll.getD y p20).2) := Lib.hid (by
                rw [← oneP_get, ← HLL.out, getD_of_lt ll y (by rw [HLN.out]; exact h3)]
                exact getP_mem (by rw [HLL.out]; exact oneP_sort _) (List.getElem_mem _))
              clear hcl hk hv
              generalize (ll.getD y p20).1 = ky at *
              generalize (ll.getD y p20).2 = vy at *
              have fA := (HFY.out).alloc (.cells #[.int .i64 ky, .int .i64 vy] 49)
              have b0 : (wr.alloc (.cells #[.int .i64 ky, .int .i64 vy] 49)).cell? ⟨wr.heap.size, 0, none⟩ = some (.int .i64 ky) := (At.new wr 49 #[.int .i64 ky, .int .i64 vy]).cell 0
              have b1 : (wr.alloc (.cells #[.int .i64 ky, .int .i64 vy] 49)).cell? ⟨wr.heap.size, 1, none⟩ = some (.int .i64 vy) := (At.new wr 49 #[.int .i64 ky, .int .i64 vy]).cell 1
              obtain ⟨WY, hWY⟩ : ∃ x, wr.alloc (.cells #[.int .i64 ky, .int .i64 vy] 49) = x := ⟨_, rfl⟩
              rw [hWY] at fA b0 b1
              have HFA := Lib.hid fA
              have HB0 := Lib.hid b0
              have HB1 := Lib.hid b1
              obtain ⟨yb, hyb⟩ : ∃ z, wr.heap.size = z := ⟨_, rfl⟩
              rw [hyb] at HB0 HB1
              clear fA b0 b1
              go_wp2_with fail
              try rw [hWY]
              try rw [hyb]
              clear q0 q1 d3
              go_loopw [13, 14, 72] (fun v k i wq => ∃ j2 : Nat, i = .int .i64 j2 ∧ j2 ≤ j ∧ v = fndV (firstP ((lens rs).take j2) ky) ∧ k = fndB (firstP ((lens rs).take j2) ky) ∧ Fr No WY wq) (fun _ _ i _ => j - (intOf i).toNat)
              case atStart => exact ⟨0, rfl, Nat.zero_le _, rfl, rfl, Fr.refl _ _⟩
              case round =>
                obtain ⟨j2, rfl, hj2, rfl, rfl, hfr⟩ := hrel
                have HFZ := Lib.hid hfr
                clear hfr
                by_cases h4 : j2 < j
                · have d4 : decide ((j2 : Int) < (j : Int)) = true := by rw [decide_eq_true_eq]; omega
                  obtain ⟨x, hx0⟩ : ∃ x, rs[j2]? = some x := ⟨_, List.getElem?_eq_getElem (by rw [HN.out]; exact h4)⟩
                  obtain ⟨b, o, _, rfl, hx⟩ := HR3.out (by rw [HN.out]; omega)
                  have X := hx j2 x hx0
                  have hx40 := HS.out x (List.mem_of_getElem? hx0)
                  have c1 := (HFA.out.trans HFZ.out).cell X.c0 (fun h => h)
                  have xle := X.le
                  have xcm := X.cm
                  unfold maxLen at xcm
                  have XE : Hid (∀ w, Fr No w3 w → ∀ t, t < x.l.length → ∃ g p, x.a = some ⟨g, p, none⟩ ∧ w.cell? ⟨g, p + t * 2, none⟩ = some (.int .i64 (x.l.getD t p20).1) ∧ w.cell? ⟨g, p + t * 2 + 1, none⟩ = some (.int .i64 (x.l.getD t p20).2)) := Lib.hid fun w f t ht => by
                    obtain ⟨g, p, _, hg, hcl⟩ := X.rd (by omega)
                    exact ⟨g, p, hg, f.cell (hcl t ht).1 (fun h => h), f.cell (hcl t ht).2 (fun h => h)⟩
                  have HST := Lib.hid (firstP_take rs j2 x hx0 ky)
                  have HGT := Lib.hid (fun t (h : t < x.l.length) => getP_take x.l t h ky)
                  have HTL : Hid (x.l.take x.l.length = x.l) := Lib.hid List.take_length
                  clear hx X hx0
                  generalize x.l.length = m at *
                  generalize x.a = xa at *
                  generalize x.c = xc at *
                  generalize firstP ((lens rs).take j2) ky = F0 at *
                  go_wp2_with fail
                  clear c1 d4
                  obtain ⟨wZ, rfl⟩ : ∃ x, x = wr := ⟨_, rfl⟩
                  go_loopw [13, 14, 78] (fun v k i wq => ∃ t : Nat, i = .int .i64 t ∧ t ≤ m ∧ v = fndV (F0.or (getP (x.l.take t) ky)) ∧ k = fndB (F0.or (getP (x.l.take t) ky)) ∧ Fr No WY wq) (fun _ _ i _ => m - (intOf i).toNat)
                  case atStart => exact ⟨0, rfl, Nat.zero_le _, by rw [List.take_zero, getP_nil, Option.or_none], by rw [List.take_zero, getP_nil, Option.or_none], HFZ.out⟩
                  case round =>
                    obtain ⟨t, rfl, ht, rfl, rfl, hfr⟩ := hrel
                    have HFT := Lib.hid hfr
                    clear hfr
                    by_cases h5 : t < m
                    · have d5 : decide ((t : Int) < (m : Int)) = true := by rw [decide_eq_true_eq]; omega
                      obtain ⟨g, p, rfl, r0, r1⟩ := XE.out wr (HFA.out.trans HFT.out) t h5
                      have s0 := HFT.out.cell HB0.out (fun h => h)
                      have s1 := HFT.out.cell HB1.out (fun h => h)
                      have HG2 := Lib.hid (HGT.out t h5)
                      generalize (x.l.getD t p20).1 = kx at *
                      generalize (x.l.getD t p20).2 = vx at *
                      have s2 := ((Fr.refl No wr).alloc (.cells #[.int .i64 kx, .int .i64 vx] 51)).cell s0 (fun h => h)
                      have HFU := Lib.hid (HFT.out.alloc (.cells #[.int .i64 kx, .int .i64 vx] 51))
                      by_cases hkk : kx = ky
                      · have d6 : (kx == ky) = true := by simp [hkk]
                        cases hg : F0.or (getP (x.l.take t) ky) with
                        | none =>
                          have e1 : Hid (F0.or (getP (x.l.take (t + 1)) ky) = some vx) := Lib.hid (by rw [HG2.out, ← Option.or_assoc, hg, if_pos hkk]; rfl)
                          rw [show fndV none = .int .i64 0 from rfl, show fndB none = .bool false from rfl]
                          clear hg hkk
                          go_wp2_with fail
                          go_roundw
                          case rel => exact ⟨t + 1, by simp, by omega, by rw [e1.out]; rfl, by rw [e1.out]; rfl, HFU.out⟩
                          case measure => simp [intOf]; omega
                        | some z =>
                          have e1 : Hid (F0.or (getP (x.l.take (t + 1)) ky) = some z) := Lib.hid (by rw [HG2.out, ← Option.or_assoc, hg]; rfl)
                          rw [show fndV (some z) = .int .i64 z from rfl, show fndB (some z) = .bool true from rfl]
                          clear hg hkk
                          go_wp2_with fail
                          go_roundw
                          case rel => exact ⟨t + 1, by simp, by omega, by rw [e1.out]; rfl, by rw [e1.out]; rfl, HFU.out⟩
                          case measure => simp [intOf]; omega
                      · have d6 : (kx == ky) = false := by simp [hkk]
                        have e1 : Hid (F0.or (getP (x.l.take (t + 1)) ky) = F0.or (getP (x.l.take t) ky)) := Lib.hid (by rw [HG2.out, if_neg hkk, Option.or_none])
                        generalize F0.or (getP (x.l.take t) ky) = F1 at *
                        clear hkk
                        go_wp2_with fail
                        go_roundw
                        case rel => exact ⟨t + 1, by simp, by omega, by rw [e1.out], by rw [e1.out], HFU.out⟩
                        case measure => simp [intOf]; omega
                    · obtain rfl : t = m := by omega
                      have d5 : decide ((t : Int) < (t : Int)) = false := by simp
                      rw [HTL.out, ← HST.out]
                      go_wp2_with fail
                      go_roundw
                      case rel => exact ⟨j2 + 1, by simp, by omega, rfl, rfl, HFT.out⟩
                      case measure => simp [intOf]; omega
                · obtain rfl : j2 = j := by omega
                  have d4 : decide ((j2 : Int) < (j2 : Int)) = false := by simp
                  rw [List.take_of_length_le (by unfold lens; rw [List.length_map, HN.out]; exact Nat.le_refl _), HGY.out, show fndV (some vy) = .int .i64 vy from rfl, show fndB (some vy) = .bool true from rfl]
                  have s1 := HFZ.out.cell HB1.out (fun h => h)
                  have d7 : (vy == vy) = true := by simp
                  go_wp2_with fail
                  go_roundw
                  case rel => exact ⟨y + 1, by simp, by omega, HFA.out.trans HFZ.out⟩
                  case measure => simp [intOf]; omega
            · obtain rfl : y = ln := by omega
              have d3 : decide ((y : Int) < (y : Int)) = false := by simp
              go_wp2_with fail
              refine (awake_c HM.out _).mono ?_
              rintro e w8 ⟨rfl, f8⟩
              have HF8 := Lib.hid ((HF3.out.trans HFY.out).trans f8)
              clear f8
              go_wp2_with fail
              go_ret
              exact ⟨rfl, FIN.out _ HF8.out⟩
end Go.Proofs.Ytkcgdmhggndhfaa
