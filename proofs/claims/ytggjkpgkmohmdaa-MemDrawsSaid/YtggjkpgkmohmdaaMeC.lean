/-
  Layer 11: the document's Get.
-/
import Derived.Test.YtggjkpgkmohmdaaMeB
import Derived.Test.YtggjkpgkmohmdaaBaO
namespace Go.Proofs.Ytggjkpgkmohmdaa
set_option linter.unusedVariables false
open Go.RowKit

set_option maxRecDepth 20000 in
set_option maxHeartbeats 3200000 in
theorem refGet_c (a : Option Addr) (cap n : Nat) (l : List Ent) (user : ByteArray) (at_ : Int) (w : World) (S : Nat → Prop) (hn : l.length = n) (hm : n ≤ 900000) (hi : Ents w S a l) (hwf : ∀ y ∈ l, EntWf y) :
    Calls Try.prog 15 #[.slice a n cap, .string user, .int .i64 at_] w (Ask (.int .i64 (getE l user at_)) w) := by
  have HN := Lib.hid hn
  have HI := Lib.hid hi
  have HWF := Lib.hid hwf
  have HGE : Hid (getE l user at_ = bestI l user at_ n) := Lib.hid (by unfold getE; rw [hn])
  obtain ⟨R, hR⟩ : ∃ R, getE l user at_ = R := ⟨_, rfl⟩
  rw [hR]
  rw [hR] at HGE
  clear hn hi hwf hR
  go_enter Try.func15, Try.ntmps15
  go_wp2_with fail
  go_loopw [7, 8] (fun bv i wr => ∃ (k : Nat) (z : Int), i = .int .i64 k ∧ bv = .int .i64 z ∧ k ≤ n ∧ bestI l user at_ k = z ∧ Fr No w wr) (fun _ i _ => n - (intOf i).toNat)
  case atStart => exact ⟨0, -1, rfl, rfl, Nat.zero_le _, rfl, Fr.refl _ _⟩
  case round =>
    obtain ⟨k, z, rfl, rfl, hk, hz, hfr⟩ := hrel
    have HZ := Lib.hid hz
    have HF := Lib.hid hfr
    have hzb := bestI_lt l user at_ k
    rewrite [hz] at hzb
    clear hfr hz
    by_cases hlt : k < n
    · have hkl : k < l.length := by rw [HN.out]; exact hlt
      obtain ⟨b, o, _, rfl, hxs⟩ := HI.out (by omega)
      have hy := (hxs k hkl).keep HF.out (fun h => h)
      have HYW := Lib.hid (HWF.out _ (getD_memE l k hkl))
      have HST : Hid (bestI l user at_ (k + 1) = if takesE l user at_ z k then (k : Int) else z) := Lib.hid (by
        show (if takesE l user at_ (bestI l user at_ k) k then (k : Int) else bestI l user at_ k) = _
        rw [HZ.out])
      obtain ⟨t, ht⟩ : ∃ t, takesE l user at_ z k = t := ⟨_, rfl⟩
      have HT : Hid (((l.getD k ent0).u = user && decide ((l.getD k ent0).q ≤ at_) && (decide (z < 0) || decide (cmpE (l.getD k ent0) (l.getD z.toNat ent0) < 0))) = t) := Lib.hid ht
      rewrite [ht] at HST
      clear ht
      obtain ⟨y, hy0⟩ : ∃ y, l.getD k ent0 = y := ⟨_, rfl⟩
      rewrite [hy0] at hy HYW HT
      clear hy0
      obtain ⟨c0, c1, c2, c3⟩ := hy
      by_cases hu : y.u = user
      · have hb : (y.u.toList == user.toList) = true := by rw [toList_eq_iff]; simpa using hu
        by_cases hq : y.q ≤ at_
        · have dq : decide (y.q ≤ at_) = true := decide_eq_true hq
          by_cases hz0 : z < 0
          · have dz : decide (z < 0) = true := decide_eq_true hz0
            have HT2 : Hid (t = true) := Lib.hid (by rw [← HT.out, dq, dz]; simp [hu])
            clear hu HT
            go_wp2_with fail
            go_quiet (fail)
            go_wp2_with fail
            go_roundw
            case rel => exact ⟨k + 1, _, by simp, rfl, by omega, by rw [HST.out, HT2.out]; rfl, HF.out.drewN _⟩
            case measure => simp [intOf]; omega
          · have dz : decide (z < 0) = false := decide_eq_false hz0
            obtain ⟨j, rfl⟩ : ∃ j : Nat, z = (j : Int) := ⟨z.toNat, by omega⟩
            have hjl : j < l.length := by omega
            have hyj := (hxs j hjl).keep HF.out (fun h => h)
            have HJW := Lib.hid (HWF.out _ (getD_memE l j hjl))
            rewrite [Int.toNat_natCast] at HT
            obtain ⟨v, hv⟩ : ∃ v, l.getD j ent0 = v := ⟨_, rfl⟩
            rewrite [hv] at hyj HJW HT
            clear hv
            obtain ⟨e0, e1, e2, e3⟩ := hyj
            have HC := Lib.hid (fun w' => refCmp_c y.u v.u y.q y.k v.q v.k HYW.out.1 HJW.out.1 w')
            have hce : cmpK y.u.data.toList y.q y.k v.u.data.toList v.q v.k = cmpE y v := rfl
            rewrite [hce] at HC
            obtain ⟨c, hc⟩ : ∃ c, cmpE y v = c := ⟨_, rfl⟩
            rewrite [hc] at HC HT
            have HT2 : Hid (t = decide (c < 0)) := Lib.hid (by rw [← HT.out, dq, dz]; simp [hu])
            have hfx := HF.out.drew
            clear hce hc hu HT hxs
            have hjn : (j : Int) < (n : Int) := by omega
            rcases Bool.eq_false_or_eq_true (decide (c < 0)) with d0 | d0
            all_goals
              go_wp2_with fail
              go_region_held3 (fun w' => w'.cell? ⟨b, o + k * 4, none⟩ = some (.string y.u) ∧ w'.cell? ⟨b, o + k * 4 + 1, none⟩ = some (.int .i64 y.q) ∧ w'.cell? ⟨b, o + k * 4 + 2, none⟩ = some (.int .i64 y.k) ∧ w'.cell? ⟨b, o + j * 4, none⟩ = some (.string v.u) ∧ w'.cell? ⟨b, o + j * 4 + 1, none⟩ = some (.int .i64 v.q) ∧ w'.cell? ⟨b, o + j * 4 + 2, none⟩ = some (.int .i64 v.k) ∧ Fr No w w') (first | assumption | go_keep)
                (first
                  | (go_at_call 31; refine (HC.out _).mono ?_; intro e w6 hret; obtain ⟨rfl, hf6⟩ := hret
                     have c0 := hf6.cell (p := ⟨b, o + k * 4, none⟩) c0 (fun h => h)
                     have c1 := hf6.cell (p := ⟨b, o + k * 4 + 1, none⟩) c1 (fun h => h)
                     have c2 := hf6.cell (p := ⟨b, o + k * 4 + 2, none⟩) c2 (fun h => h)
                     have e0 := hf6.cell (p := ⟨b, o + j * 4, none⟩) e0 (fun h => h)
                     have e1 := hf6.cell (p := ⟨b, o + j * 4 + 1, none⟩) e1 (fun h => h)
                     have e2 := hf6.cell (p := ⟨b, o + j * 4 + 2, none⟩) e2 (fun h => h)
                     have hfx := hfx.trans hf6
                     clear hf6))
              have HFX := Lib.hid hfx
              have HD := Lib.hid d0
              clear hfx
              go_wp2_with fail
              go_roundw
              case rel => exact ⟨k + 1, _, by simp, rfl, by omega, by rw [HST.out, HT2.out, HD.out]; rfl, HFX.out⟩
              case measure => simp [intOf]; omega
        · have dq : decide (y.q ≤ at_) = false := decide_eq_false hq
          have HT2 : Hid (t = false) := Lib.hid (by rw [← HT.out, dq]; simp)
          clear hu HT
          go_wp2_with fail
          go_quiet (fail)
          go_wp2_with fail
          go_roundw
          case rel => exact ⟨k + 1, _, by simp, rfl, by omega, by rw [HST.out, HT2.out]; rfl, HF.out.drewN _⟩
          case measure => simp [intOf]; omega
      · have hb : (y.u.toList == user.toList) = false := by rw [toList_eq_iff]; simpa using hu
        have HT2 : Hid (t = false) := Lib.hid (by rw [← HT.out]; simp [hu])
        clear hu HT
        go_wp2_with fail
        go_quiet (fail)
        go_wp2_with fail
        go_roundw
        case rel => exact ⟨k + 1, _, by simp, rfl, by omega, by rw [HST.out, HT2.out]; rfl, HF.out.drewN _⟩
        case measure => simp [intOf]; omega
    · have hk' : k = n := by omega
      subst hk'
      have HE : Hid (R = z) := Lib.hid (HGE.out.trans HZ.out)
      go_wp2_with fail
      go_ret
      exact ⟨by rw [HE.out]; rfl, HF.out⟩
end Go.Proofs.Ytggjkpgkmohmdaa
