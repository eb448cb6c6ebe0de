/-
  Layer 6, the program's own cursor: contracts of move, toLeast, toGreatest.
-/
import Derived.Test.YtkcgdmhggndhfaaMrG
namespace Go.Proofs.Ytkcgdmhggndhfaa
set_option linter.unusedVariables false
open Go.RowKit

theorem great_c (x y : Int) (w : World) : Calls Try.prog 49 #[.int .i64 x, .int .i64 y] w fun e w' => e = .returned (.bool (gtB x y)) ∧ w = w' := by
  go_enter Try.func49, Try.ntmps49
  go_wp2_with fail
  refine (less_c _ _ _).mono ?_
  rintro e w1 ⟨rfl, rfl⟩
  go_wp2_with fail
  go_ret
  exact ⟨rfl, rfl⟩
def MoveEnd (c : Nat) (a : Option Addr) (n cap : Nat) (r : Option P2) (w : World) (e : Ending) (w' : World) : Prop :=
  e = .returned (.bool r.isSome) ∧ ∃ p, At w' c 65 (cuC a n cap p) ∧ PtrAt w' c p r ∧ Fr (One c) w w'
theorem lens_take' (rs : List Rn) (j : Nat) (x : Rn) (h : rs[j]? = some x) : (lens rs).take (j + 1) = (lens rs).take j ++ [x.l] := lens_take rs j x h
def bestIn (bt : Int → Int → Bool) : Option P2 → P2 → Option P2
  | none, y => some y
  | some q, y => if bt y.1 q.1 then some y else some q
theorem bestSt_in {pl : List P2 → Int} {bt : Int → Int → Bool} {r : Option P2} {l : List P2} {k : Nat} (h : pl l = (k : Int)) (hk : k < l.length) : bestSt pl bt r l = bestIn bt r (l.getD k p20) := by
  have ho : outP l (pl l) = false := by
    unfold outP
    rw [h, Bool.or_eq_false_iff, decide_eq_false_iff_not, decide_eq_false_iff_not]
    omega
  unfold bestSt
  rw [ho, if_neg (by simp), h, show ((k : Int)).toNat = k by omega]
  cases r <;> rfl
set_option maxRecDepth 20000 in
set_option maxHeartbeats 3200000 in
theorem move_c (g gb : Nat) (lb : Array Value) (pl : List P2 → Int) (bt : Int → Int → Bool) (c : Nat) (a : Option Addr) (cap : Nat) (rs : List Rn) (p0 : Option Addr) (w : World) (hn : rs.length ≤ 1000) (hs : ∀ x ∈ rs, x.l.length ≤ 1000)
    (eg : ∀ args w, (callFunc g args).run Try.prog w = .ok (.enter g args) w) (egb : ∀ args w, (callFunc gb args).run Try.prog w = .ok (.enter gb args) w)
    (hfind : ∀ x ∈ rs, ∀ w', Fr (One c) w w' → Calls Try.prog g (#[.slice x.a x.l.length x.c] ++ lb) w' fun e w'' => e = .returned (.int .i64 (pl x.l)) ∧ Fr No w' w'')
    (hbt : ∀ x y w, Calls Try.prog gb #[.int .i64 x, .int .i64 y] w fun e w' => e = .returned (.bool (bt x y)) ∧ w = w')
    (hA : At w c 65 (cuC a rs.length cap p0)) (hr : InR w (Till c) a rs) :
    Calls Try.prog 48 #[.pointer (some ⟨c, 0, none⟩), .func (.func g) #[] lb, .func (.func gb) #[] #[]] w (MoveEnd c a rs.length cap (bestP pl bt (lens rs)) w) := by
  unfold MoveEnd
  have HF := Lib.hid hfind
  have HB := Lib.hid (fun (x y : Int) (w : World) (n : Nat) => Calls.quiet_of_same (n := n) ((hbt x y (w.drewN n)).mono fun _ _ h => ⟨h.1, h.2.symm⟩))
  have HR := Lib.hid hr
  have HA := Lib.hid hA
  have c1 := hA.cell 1
  have g1 := hA.frozen 1
  simp [cuC] at c1
  obtain ⟨n, hn'⟩ : ∃ n, rs.length = n := ⟨_, rfl⟩
  rw [hn'] at hn HA
  rw [hn']
  have HN := Lib.hid hn'
  have A1 : At (w.setCell ⟨c, 1, none⟩ (.pointer none)) c 65 (cuC a n cap none) := HA.out.set_ 1 _
  have f1 : Fr (One c) w (w.setCell ⟨c, 1, none⟩ (.pointer none)) := (Fr.refl (One c) w).setCell (p := ⟨c, 1, none⟩) (fun _ => rfl) _
  have HA1 := Lib.hid A1
  have HF1 := Lib.hid f1
  have c0 := A1.cell 0
  simp [cuC] at c0
  clear hA hr hfind hbt hn' A1 f1 HA
  go_enter Try.func48, Try.ntmps48
  go_wp2_with fail
  clear c0 c1 g1
  go_loopw [18] (fun i wr => ∃ (j : Nat) (p : Option Addr) (r : Option P2), i = .int .i64 j ∧ j ≤ n ∧ r = bestP pl bt ((lens rs).take j) ∧ At wr c 65 (cuC a n cap p) ∧ PtrAt wr c p r ∧ Fr (One c) w wr) (fun i _ => n - (intOf i).toNat)
  case atStart => exact ⟨0, none, none, rfl, Nat.zero_le _, rfl, HA1.out, rfl, HF1.out⟩
  case round =>
    clear HA1 HF1
    obtain ⟨j, p, r, rfl, hj, hr, hat, hpt, hfr⟩ := hrel
    have HP := Lib.hid hpt
    have HAT := Lib.hid hat
    have HFR := Lib.hid hfr
    have HRR := Lib.hid hr
    have c0 := hat.cell 0
    have c1 := hat.cell 1
    have g1 := hat.frozen 1
    simp [cuC] at c0 c1
    clear hpt hat hfr hr
    by_cases h1 : j < n
    · have d1 : decide ((j : Int) < (n : Int)) = true := by rw [decide_eq_true_eq]; omega
      obtain ⟨b, o, hb, rfl, hx⟩ := (HR.out.keep HFR.out (fun k hk h => absurd h (Nat.ne_of_lt hk))) (by rw [HN.out]; omega)
      obtain ⟨x, hx0⟩ : ∃ x, rs[j]? = some x := ⟨_, List.getElem?_eq_getElem (by rw [HN.out]; exact h1)⟩
      have hxj := hx j x hx0
      have HFX := Lib.hid (HF.out x (List.mem_of_getElem? hx0) wr HFR.out)
      have HIN := Lib.hid hxj.rd
      have HCAP := Lib.hid (And.intro hxj.le hxj.cm)
      have hsx := hs x (List.mem_of_getElem? hx0)
      have HST : Hid (bestP pl bt ((lens rs).take (j + 1)) = bestSt pl bt r x.l) := Lib.hid (by rw [lens_take rs j x hx0, bestP_snoc, HRR.out])
      have q0 := hxj.c0
      clear hx hxj hx0
      obtain ⟨xl, hxl⟩ : ∃ m, x.l = m := ⟨_, rfl⟩
      obtain ⟨xa, hxa⟩ : ∃ m, x.a = m := ⟨_, rfl⟩
      obtain ⟨xc, hxc⟩ : ∃ m, x.c = m := ⟨_, rfl⟩
      rw [hxl, hxa, hxc] at q0 HFX
      rw [hxl] at HST hsx
      rw [hxl, hxa] at HIN
      rw [hxl, hxc] at HCAP
      clear hxl hxa hxc
      obtain ⟨m, hm⟩ : ∃ m, xl.length = m := ⟨_, rfl⟩
      rw [hm] at q0 HFX hsx HCAP
      have HM := Lib.hid hm
      clear hm
      obtain ⟨z, hz⟩ : ∃ z, pl xl = z := ⟨_, rfl⟩
      have HZ := Lib.hid hz
      rw [hz] at HFX
      clear hz
      have hmc := HCAP.out.1
      have hcm := HCAP.out.2
      unfold maxLen at hcm
      clear c0 c1 g1
      clear hs hb
      by_cases z1 : z < 0
      · have d2 : decide (z < (0 : Int)) = true := decide_eq_true z1
        have HE : Hid (bestSt pl bt r xl = r) := Lib.hid (by
          unfold bestSt outP
          rw [HZ.out, d2]
          rfl)
        clear z1
        go_wp2_with fail
        refine HFX.out.mono ?_
        rintro e w1 ⟨rfl, f1⟩
        have HF1 := Lib.hid (f1.sub (T := One c) (fun _ _ h => h.elim))
        have HA1 := Lib.hid (HAT.out.keep f1 (fun h => h))
        have HP1 := Lib.hid (HP.out.keep f1 (fun _ _ h => h))
        clear f1 q0
        go_wp2_with fail
        go_roundw
        case rel => exact ⟨j + 1, p, r, by simp, by omega, by rw [HST.out, HE.out], HA1.out, HP1.out, HFR.out.trans HF1.out⟩
        case measure => simp [intOf]; omega
      have d2 : decide (z < (0 : Int)) = false := decide_eq_false z1
      by_cases z2 : (m : Int) ≤ z
      · have d3 : decide ((m : Int) ≤ z) = true := decide_eq_true z2
        have HE : Hid (bestSt pl bt r xl = r) := Lib.hid (by
          unfold bestSt outP
          rw [HZ.out, HM.out, d2, d3]
          rfl)
        clear z1 z2
        go_wp2_with fail
        refine HFX.out.mono ?_
        rintro e w1 ⟨rfl, f1⟩
        have HF1 := Lib.hid (f1.sub (T := One c) (fun _ _ h => h.elim))
        have HA1 := Lib.hid (HAT.out.keep f1 (fun h => h))
        have HP1 := Lib.hid (HP.out.keep f1 (fun _ _ h => h))
        clear f1 q0
        go_wp2_with fail
        go_roundw
        case rel => exact ⟨j + 1, p, r, by simp, by omega, by rw [HST.out, HE.out], HA1.out, HP1.out, HFR.out.trans HF1.out⟩
        case measure => simp [intOf]; omega
      have d3 : decide ((m : Int) ≤ z) = false := decide_eq_false z2
      obtain ⟨k, rfl⟩ : ∃ k : Nat, z = (k : Int) := ⟨z.toNat, by omega⟩
      have hkm : k < m := by omega
      have HBS : Hid (bestSt pl bt r xl = bestIn bt r (xl.getD k p20)) := Lib.hid (bestSt_in HZ.out (by rw [HM.out]; exact hkm))
      clear z1 z2
      obtain ⟨xb, xo, xlt, rfl, hxc⟩ := HIN.out (by rw [HM.out]; omega)
      obtain ⟨k0, k1⟩ := hxc k (by rw [HM.out]; exact hkm)
      clear hxc
      have HXL := Lib.hid xlt
      clear xlt
      generalize xl.getD k p20 = y at *
      obtain ⟨yk, yv⟩ := y
      simp only at k0 k1
      have HK0 := Lib.hid k0
      have HK1 := Lib.hid k1
      clear k0 k1
      go_wp2_with fail
      refine HFX.out.mono ?_
      rintro e w1 ⟨rfl, f1⟩
      have HF1 := Lib.hid (f1.sub (T := One c) (fun _ _ h => h.elim))
      have hA1 := HAT.out.keep f1 (fun h => h)
      have hP1 := HP.out.keep f1 (fun _ _ h => h)
      have k0 := f1.cell HK0.out (fun h => h)
      have k1 := f1.cell HK1.out (fun h => h)
      have c1 := hA1.cell 1
      have g1 := hA1.frozen 1
      simp [cuC] at c1
      have HA1 := Lib.hid hA1
      have HP1 := Lib.hid hP1
      clear f1 q0 hA1 hP1
      have HNEW : Hid (∀ nq : Nat, At ((w1.drewN nq).setCell ⟨c, 1, none⟩ (.pointer (some ⟨xb, xo + k * 2, none⟩))) c 65 (cuC (some ⟨b, o, none⟩) n cap (some ⟨xb, xo + k * 2, none⟩)) ∧
          PtrAt ((w1.drewN nq).setCell ⟨c, 1, none⟩ (.pointer (some ⟨xb, xo + k * 2, none⟩))) c (some ⟨xb, xo + k * 2, none⟩) (some (yk, yv)) ∧ Fr (One c) w1 ((w1.drewN nq).setCell ⟨c, 1, none⟩ (.pointer (some ⟨xb, xo + k * 2, none⟩)))) := Lib.hid fun nq => by
        have fs : Fr (One c) w1 ((w1.drewN nq).setCell ⟨c, 1, none⟩ (.pointer (some ⟨xb, xo + k * 2, none⟩))) := ((Fr.refl (One c) w1).drewN nq).setCell (p := ⟨c, 1, none⟩) (fun _ => rfl) _
        have no : ∀ i, ¬ One c (Addr.mk xb i none).block := fun i h => absurd (show xb = c from h) (Nat.ne_of_lt HXL.out)
        have aa : At (w1.drewN nq) c 65 (cuC (some ⟨b, o, none⟩) n cap p) := HA1.out.keep ((Fr.refl No w1).drewN nq) (fun h => h)
        exact ⟨aa.set_ 1 _, ⟨xb, xo + k * 2, HXL.out, rfl, fs.cell k0 (no _), fs.cell k1 (no _)⟩, fs⟩
      cases r with
      | none =>
        obtain rfl : p = none := HP1.out
        go_wp2_with fail
        go_quiet (fail)
        go_wp2_with fail
        go_roundw
        case rel => exact ⟨j + 1, _, some (yk, yv), by simp, by omega, by rw [HST.out, HBS.out]; rfl, (HNEW.out _).1, (HNEW.out _).2.1, (HFR.out.trans HF1.out).trans (HNEW.out _).2.2⟩
        case measure => simp [intOf]; omega
      | some q =>
        obtain ⟨qb, qo, _, rfl, q1, q2⟩ := HP1.out
        have HBQ := Lib.hid (fun w n => HB.out yk q.1 w n)
        cases hb : bt yk q.1 with
        | true =>
          have HBS2 : Hid (bestIn bt (some q) (yk, yv) = some (yk, yv)) := Lib.hid (by show (if bt yk q.1 then some (yk, yv) else some q) = _; rw [hb]; rfl)
          rw [hb] at HBQ
          clear hb
          generalize q.1 = qk at *
          generalize q.2 = qv at *
          go_wp2_with fail
          go_quiet (exact HBQ.out _ _)
          go_wp2_with fail
          go_roundw
          case rel => exact ⟨j + 1, _, some (yk, yv), by simp, by omega, by rw [HST.out, HBS.out, HBS2.out], (HNEW.out _).1, (HNEW.out _).2.1, (HFR.out.trans HF1.out).trans (HNEW.out _).2.2⟩
          case measure => simp [intOf]; omega
        | false =>
          have HBS2 : Hid (bestIn bt (some q) (yk, yv) = some q) := Lib.hid (by show (if bt yk q.1 then some (yk, yv) else some q) = _; rw [hb]; rfl)
          rw [hb] at HBQ
          clear hb
          generalize q.1 = qk at *
          generalize q.2 = qv at *
          go_wp2_with fail
          go_quiet (exact HBQ.out _ _)
          go_wp2_with fail
          go_roundw
          case rel => exact ⟨j + 1, _, some q, by simp, by omega, by rw [HST.out, HBS.out, HBS2.out], HA1.out.keep ((Fr.refl No w1).drewN _) (fun h => h), HP1.out.keep ((Fr.refl No w1).drewN _) (fun _ _ h => h), (HFR.out.trans HF1.out).drewN _⟩
          case measure => simp [intOf]; omega
    · obtain rfl : j = n := by omega
      have d1 : decide ((j : Int) < (j : Int)) = false := by simp
      have HV := Lib.hid (valid_c c a j cap p wr HAT.out)
      have HE : Hid (bestP pl bt (lens rs) = r) := Lib.hid (by
        rw [HRR.out, List.take_of_length_le (by unfold lens; rw [List.length_map, HN.out]; exact Nat.le_refl _)])
      have HS : Hid (p.isSome = r.isSome) := Lib.hid HP.out.isSome
      clear c0 c1 g1
      go_wp2_with fail
      refine HV.out.mono ?_
      rintro e w1 ⟨rfl, rfl⟩
      rw [HS.out]
      go_wp2_with fail
      go_ret
      exact ⟨by rw [HE.out]; rfl, p, HAT.out, by rw [HE.out]; exact HP.out, HFR.out⟩
end Go.Proofs.Ytkcgdmhggndhfaa
