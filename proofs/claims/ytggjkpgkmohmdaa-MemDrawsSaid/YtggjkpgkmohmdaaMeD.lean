/-
  Layer 11: the document's Users; the law's ref and same.
-/
import Derived.Test.YtggjkpgkmohmdaaMeC
namespace Go.Proofs.Ytggjkpgkmohmdaa
set_option linter.unusedVariables false
open Go.RowKit

def strsC (l : List ByteArray) : List Value := l.map Value.string
theorem strsC_append (l m : List ByteArray) : strsC (l ++ m) = strsC l ++ strsC m := by simp [strsC]
theorem rowStr : RowT Try.prog 46 9 (.string ⟨#[]⟩) 1 16 := ⟨Try.underlying46, by kernel_rfl, rfl, by decide⟩
/-- A row of texts of the call's own comes back, and nothing that was there has turned. -/
def NewStrs (l : List ByteArray) (w : World) (e : Ending) (w' : World) : Prop := ∃ v, e = .returned v ∧ RowG w' (Gr No w w') 9 1 v l.length (strsC l) ∧ Fr No w w'
theorem push_str (W0 wr : World) (vo : Value) (m : Nat) (o : List ByteArray) (x : ByteArray) (hm : o.length = m) (hrow : RowG wr (Gr No W0 wr) 9 1 vo m (strsC o)) (hfr : Fr No W0 wr) (hl : m ≤ 1000000) :
    ∃ v' w', (Builtin.append_ #[46, 46] 46 #[vo, .slice (some ⟨wr.heap.size, 0, none⟩) 1 1]).run Try.prog (wr.alloc (.cells #[.string x] 9)) = .ok v' w' ∧
      RowG w' (Gr No W0 w') 9 1 v' (m + 1) (strsC (o ++ [x])) ∧ Fr No W0 w' := by
  subst hm
  obtain ⟨v', w', h1, h2, h3⟩ := hrow.push rowStr (fun q hq => hq.elim (fun h => h.elim) (fun h => h.2)) [.string x] rfl (by intro u hu; simp at hu; subst hu; rfl) (by omega) (by omega)
  refine ⟨v', w', h1, ?_, hfr.then_ h3 fun q hq h => h.elim (fun h => h) (fun h => absurd hq (by omega))⟩
  rw [strsC_append]
  exact h2.join hfr.size h3.size
theorem usersE_len (l : List Ent) (at_ : Int) : ∀ n, (usersE l at_ n).length ≤ n
  | 0 => Nat.le_refl _
  | n + 1 => by
    have := usersE_len l at_ n
    unfold usersE
    split
    · rw [List.length_append]; simp; omega
    · omega
set_option maxRecDepth 20000 in
set_option maxHeartbeats 3200000 in
theorem refUsers_c (a : Option Addr) (cap n : Nat) (l : List Ent) (at_ : Int) (w : World) (S : Nat → Prop) (hn : l.length = n) (hm : n ≤ 900000) (hi : Ents w S a l) (hwf : ∀ y ∈ l, EntWf y) :
    Calls Try.prog 17 #[.slice a n cap, .int .i64 at_] w (NewStrs (usersE l at_ n) w) := by
  have HN := Lib.hid hn
  have HI := Lib.hid hi
  have HWF := Lib.hid hwf
  have HFIN : Hid (∀ (w' : World) (v : Value) (m : Nat) (o : List ByteArray), o = usersE l at_ n → o.length = m → RowG w' (Gr No w w') 9 1 v m (strsC o) → Fr No w w' → NewStrs (usersE l at_ n) w (.returned v) w') := Lib.hid fun w' v m o ho hl h1 h2 => by
    subst hl
    rw [ho] at h1
    exact ⟨v, rfl, h1, h2⟩
  clear hn hi hwf
  go_enter Try.func17, Try.ntmps17
  go_wp2_with fail
  go_loopw [5, 6] (fun vo i wr => ∃ (k m : Nat), i = .int .i64 k ∧ k ≤ n ∧ (usersE l at_ k).length = m ∧ m ≤ k ∧ RowG wr (Gr No w wr) 9 1 vo m (strsC (usersE l at_ k)) ∧ Fr No w wr) (fun _ i _ => n - (intOf i).toNat)
  case atStart => exact ⟨0, 0, rfl, Nat.zero_le _, rfl, Nat.le_refl _, RowG.nil _ _ _ _, Fr.refl _ _⟩
  case round =>
    obtain ⟨k, m, rfl, hk, hml, hmk, hrow, hfr⟩ := hrel
    obtain ⟨va, vc, rfl, _, _, _, _⟩ := hrow.form
    have HR := Lib.hid hrow
    have HF := Lib.hid hfr
    have HML := Lib.hid hml
    clear hrow hfr hml
    by_cases hlt : k < n
    · have hkl : k < l.length := by rw [HN.out]; exact hlt
      have hik := HI.out
      obtain ⟨b, o, hb, rfl, hxs⟩ := hik (by omega)
      have hy := (hxs k hkl).keep HF.out (fun h => h)
      have HG := Lib.hid (fun (u : ByteArray) => refGet_c (some ⟨b, o, none⟩) cap n l u at_ wr S HN.out hm (HI.out.keep HF.out fun _ _ h => h) HWF.out)
      have HST : Hid (usersE l at_ (k + 1) = if getE l (l.getD k ent0).u at_ = (k : Int) ∧ (l.getD k ent0).k = 1 then usersE l at_ k ++ [(l.getD k ent0).u] else usersE l at_ k) := Lib.hid rfl
      obtain ⟨y, hy0⟩ : ∃ y, l.getD k ent0 = y := ⟨_, rfl⟩
      rewrite [hy0] at hy HST
      have HY := Lib.hid (And.intro hy hy)
      clear hy0
      obtain ⟨c0, c1, c2, c3⟩ := hy
      obtain ⟨g, hg⟩ : ∃ g, getE l y.u at_ = g := ⟨_, rfl⟩
      have HGY := Lib.hid (HG.out y.u)
      rewrite [hg] at HGY HST
      obtain ⟨o0, ho0⟩ : ∃ o, usersE l at_ k = o := ⟨_, rfl⟩
      rewrite [ho0] at HR HML HST
      clear hg HG ho0 hxs
      by_cases hgk : g = (k : Int)
      · subst hgk
        have e1 : ((k : Int) == (k : Int)) = true := by simp
        by_cases hk1 : y.k = 1
        · have hst : usersE l at_ (k + 1) = o0 ++ [y.u] := by rw [HST.out, if_pos ⟨rfl, hk1⟩]
          have HS := Lib.hid hst
          rewrite [hk1] at c2
          clear hst hk1
          go_wp2_with fail
          refine HGY.out.mono ?_
          rintro e w1 ⟨rfl, hf1⟩
          have d0 := hf1.cell c0 (fun h => h)
          have d2 := hf1.cell c2 (fun h => h)
          obtain ⟨v', w', hrun, hrow', hfr'⟩ := push_str w w1 _ m o0 y.u HML.out (HR.out.growE hf1) (HF.out.trans hf1) (by omega)
          obtain ⟨va', vc', rfl, _, _, _, _⟩ := hrow'.form
          have HRUN := Lib.hid hrun
          have HR2 := Lib.hid hrow'
          have HF2 := Lib.hid hfr'
          have HML2 : Hid ((usersE l at_ (k + 1)).length = m + 1) := Lib.hid (by rw [HS.out, List.length_append, HML.out]; rfl)
          rewrite [← HS.out] at HR2
          clear hrun hrow' hfr' hf1 c0 c1 c2 c3
          go_wp2_with (at_builtin; refine wpList_append_run rfl _ _ 46 rfl rfl rfl HRUN.out ?_)
          go_roundw
          case rel => exact ⟨k + 1, m + 1, by simp, by omega, HML2.out, by omega, HR2.out, HF2.out⟩
          case measure => simp [intOf]; omega
        · have hst : usersE l at_ (k + 1) = o0 := by rw [HST.out, if_neg (fun h => hk1 h.2)]
          have HS := Lib.hid hst
          have e2 : (y.k == 1) = false := by simpa using hk1
          clear hst hk1
          go_wp2_with fail
          refine HGY.out.mono ?_
          rintro e w1 ⟨rfl, hf1⟩
          have d0 := hf1.cell c0 (fun h => h)
          have d2 := hf1.cell c2 (fun h => h)
          have HF1 := Lib.hid hf1
          clear hf1 c0 c1 c2 c3
          go_wp2_with fail
          go_roundw
          case rel => exact ⟨k + 1, m, by simp, by omega, by rw [HS.out]; exact HML.out, by omega, by rw [HS.out]; exact HR.out.growE HF1.out, HF.out.trans HF1.out⟩
          case measure => simp [intOf]; omega
      · have hst : usersE l at_ (k + 1) = o0 := by rw [HST.out, if_neg (fun h => hgk h.1)]
        have HS := Lib.hid hst
        have e2 : (g == (k : Int)) = false := by simpa using hgk
        clear hst hgk
        go_wp2_with fail
        refine HGY.out.mono ?_
        rintro e w1 ⟨rfl, hf1⟩
        have HF1 := Lib.hid hf1
        clear hf1 c0 c1 c2 c3
        go_wp2_with fail
        go_roundw
        case rel => exact ⟨k + 1, m, by simp, by omega, by rw [HS.out]; exact HML.out, by omega, by rw [HS.out]; exact HR.out.growE HF1.out, HF.out.trans HF1.out⟩
        case measure => simp [intOf]; omega
    · have hk' : k = n := by omega
      subst hk'
      have HE := Lib.hid (HFIN.out wr _ m _ rfl HML.out HR.out HF.out)
      go_wp2_with fail
      go_ret
      exact HE.out
end Go.Proofs.Ytggjkpgkmohmdaa
