/-
  Contracts of layer 3's functions that take a key's bytes apart: cutUser, readTail.
-/
import Derived.Test.YtdpfgkjjjjkfkaaIkC
import Derived.Test.YtdpfgkjjjjkfkaaOpenB
import Derived.StillTailTactics
namespace Go.Proofs.Ytdpfgkjjjjkfkaa
set_option linter.unusedVariables false
open Go.RowKit

def CutRet (l : List UInt8) (w : World) (e : Ending) (w' : World) : Prop := Fr No w w' ∧
  ((cutS [] l = none ∧ e = .returned (.tuple #[.string (strOf []), .slice none 0 0, .bool false])) ∨
   ∃ u t a' n' c', cutS [] l = some (u, t) ∧ t.length = n' ∧ n' ≤ 140737488355328 ∧ n' ≤ c' ∧ Rd w' a' t ∧ e = .returned (.tuple #[.string (strOf u), .slice a' n' c', .bool true]))

theorem sizeU8 (w : World) : (sizeOf 5).run Try.prog w = .ok 1 w := size_one cellsU8 (by
  obtain ⟨i0, hi, _, hz1, _⟩ := info_parts infoU8
  exact ⟨i0, hi, hz1⟩) w
set_option maxRecDepth 20000 in
set_option maxHeartbeats 2000000 in
theorem cutUser_c (a : Option Addr) (len cap : Nat) (l : List UInt8) (w : World) (hl : l.length = len) (hcap : len ≤ cap) (hm : len ≤ 140737488355328) (hr : Rd w a l) :
    Calls Try.prog 27 #[.slice a len cap] w (CutRet l w) := by
  have HL := Lib.hid hl
  have HR := Lib.hid hr
  clear hl hr
  go_enter Try.func27, Try.ntmps27
  go_wp2_with fail
  go_loopw [5, 6] (fun u i wr => ∃ (k : Nat) (p : List UInt8), i = .int .i64 k ∧ k ≤ len ∧ Row wr (Gr No w wr) u p ∧ p.length ≤ k ∧ Fr No w wr ∧ cutS [] l = cutS p (l.drop k)) (fun _ i _ => len - (intOf i).toNat)
  case atStart => exact ⟨0, [], rfl, Nat.zero_le _, Row.nil _ _, Nat.le_refl _, Fr.refl _ _, rfl⟩
  case round =>
    obtain ⟨k, p, rfl, hk, hrow, hp, hfr, he⟩ := hrel
    have HE := Lib.hid he
    have HF := Lib.hid hfr
    clear he
    by_cases h1 : k < len
    · have hrd := HR.out.keep hfr
      obtain ⟨b, o, ha, hc⟩ := hrd (by rw [HL.out]; omega)
      subst ha
      have c0 := hc k (by rw [HL.out]; exact h1)
      by_cases h2 : l.getD k 0 = 0
      · have hz : ((l.getD k 0).toNat : Int) = 0 := by rw [h2]; rfl
        rw [hz] at c0
        by_cases h3 : k + 1 < len
        · have c1 := hc (k + 1) (by rw [HL.out]; exact h3)
          have HS := Lib.hid (cutS_zero p l k (by rw [HL.out]; exact h3) h2)
          by_cases h4 : l.getD (k + 1) 0 = 1
          · have h41 : ((l.getD (k + 1) 0).toNat : Int) = 1 := by rw [h4]; rfl
            rw [h41] at c1
            obtain ⟨ua, uc, rfl, hu1, hu2, hin⟩ := hrow.form
            have kc := conv_rd wr.drew ua p.length uc p rfl hin.rd
            have ks := cut_lo (P := Try.prog) Try.underlying26 sizeU8 (some ⟨b, o, none⟩) len cap (k + 2) (by omega)
            rw [show ((k + 2 : Nat) : Int) = (k : Int) + 2 by omega] at ks
            have hw : IntKind.i64.wrap ((k : Int) + 1 + 1) = (k : Int) + 2 := (IntWalk.i64_in _ ⟨by omega, by omega⟩).trans (by omega)
            have HN : Hid (∀ n, CutRet l w (.returned (.tuple #[.string (strOf p), .slice (cutAt (some ⟨b, o, none⟩) (k + 2) cap) (len - (k + 2)) (cap - (k + 2)), .bool true])) (wr.drewN n)) := Lib.hid fun n => ⟨HF.out.drewN n, .inr ⟨p, l.drop (k + 2), _, _, _, by rw [HE.out, HS.out, if_pos h4], by rw [List.length_drop, HL.out], by omega, by omega, ((HR.out.keep HF.out).drop (k + 2) cap (by rw [HL.out]; exact hcap)), rfl⟩⟩
            clear hrow hfr hin hc hrd
            go_wp2_with fail
            go_still (by kernel_rfl)
            go_wp2_with fail
            go_ret3
            exact HN.out 1
          · have h41 : ¬ (l.getD (k + 1) 0).toNat = 1 := fun e => h4 (UInt8.toNat_inj.1 (e.trans rfl))
            by_cases h5 : l.getD (k + 1) 0 = 255
            · have h51 : ((l.getD (k + 1) 0).toNat : Int) = 255 := by rw [h5]; rfl
              rw [h51] at c1
              obtain ⟨v1, w1, hrun, hrow1, hfr1⟩ := hrow.push gr_lt 0 (by omega)
              rw [show (((0 : UInt8).toNat : Nat) : Int) = 0 from rfl] at hrun
              have HR1 := Lib.hid hrun
              have HW := Lib.hid (hrow1.join hfr.size hfr1.size)
              have HF1 := Lib.hid (hfr.then_ hfr1 fun k hk h => Gr.old hk h)
              have HE2 := Lib.hid (show cutS [] l = cutS (p ++ [0]) (l.drop (k + 2)) by rw [HE.out, HS.out, if_neg h4, if_pos h5])
              clear hrun hrow hrow1 hfr hfr1 hc hrd h41 h4 h5
              go_wp2_with (at_builtin; refine wpList_append_run rfl _ _ 26 rfl rfl rfl HR1.out ?_)
              go_roundw
              case rel => exact ⟨k + 2, p ++ [0], by simp; omega, by omega, HW.out, by simp; omega, HF1.out, HE2.out⟩
              case measure => simp [intOf]; omega
            · have h51 : ¬ (l.getD (k + 1) 0).toNat = 255 := fun e => h5 (UInt8.toNat_inj.1 (e.trans rfl))
              have HN : Hid (CutRet l w (.returned (.tuple #[.string (strOf []), .slice none 0 0, .bool false])) wr) := Lib.hid ⟨HF.out, .inl ⟨by rw [HE.out, HS.out, if_neg h4, if_neg h5], rfl⟩⟩
              generalize (l.getD (k + 1) 0).toNat = m at c1 h41 h51
              have hb : ((m : Int) == 255) = false := by rw [beq_eq_false_iff_ne]; omega
              have hb' : ((m : Int) != 255) = true := by rw [bne_iff_ne]; omega
              clear hrow hfr hc hrd h4 h5
              go_wp2_with fail
              go_ret3
              exact HN.out
        · have hk1 : k + 1 = len := by omega
          have HN : Hid (CutRet l w (.returned (.tuple #[.string (strOf []), .slice none 0 0, .bool false])) wr) := Lib.hid ⟨HF.out, .inl ⟨by rw [HE.out, cutS_last p l k (by rw [HL.out]; exact hk1)], rfl⟩⟩
          subst hk1
          clear hrow hfr hc hrd
          go_wp2_with fail
          go_ret3
          exact HN.out
      · have hz : ¬ (l.getD k 0).toNat = 0 := fun e => h2 (UInt8.toNat_inj.1 (e.trans rfl))
        obtain ⟨v1, w1, hrun, hrow1, hfr1⟩ := hrow.push gr_lt (l.getD k 0) (by omega)
        have HR1 := Lib.hid hrun
        have HW := Lib.hid (hrow1.join hfr.size hfr1.size)
        have HF1 := Lib.hid (hfr.then_ hfr1 fun k hk h => Gr.old hk h)
        have HE2 := Lib.hid (show cutS [] l = cutS (p ++ [l.getD k 0]) (l.drop (k + 1)) by rw [HE.out, cutS_other p l k (by rw [HL.out]; exact h1) h2])
        generalize l.getD k 0 = cc at c0 HR1 HW HE2 hz
        clear hrun hrow hrow1 hfr hfr1 hc hrd h2
        go_wp2_with (at_builtin; refine wpList_append_run rfl _ _ 26 rfl rfl rfl HR1.out ?_)
        go_roundw
        case rel => exact ⟨k + 1, p ++ [cc], by simp, by omega, HW.out, by simp; omega, HF1.out, HE2.out⟩
        case measure => simp [intOf]; omega
    · have HN : Hid (CutRet l w (.returned (.tuple #[.string (strOf []), .slice none 0 0, .bool false])) wr) := Lib.hid ⟨HF.out, .inl ⟨by rw [HE.out, cutS_end p l k (by rw [HL.out]; omega)], rfl⟩⟩
      clear hrow hfr
      go_wp2_with fail
      go_ret3
      exact HN.out
end Go.Proofs.Ytdpfgkjjjjkfkaa
