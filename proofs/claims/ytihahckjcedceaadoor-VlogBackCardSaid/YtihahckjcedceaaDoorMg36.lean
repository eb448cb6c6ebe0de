/-
  Texts of layer 14 and of what it stands on, one behind the other.
-/
import Derived.Test.YtihahckjcedceaaDoorMg34
import Derived.Test.YtihahckjcedceaaDoorMg30

/- Layer 14, the program's own: readRecord. -/
namespace Go.Proofs.YtihahckjcedceaaDoor
set_option linter.unusedVariables false
set_option linter.unusedSimpArgs false
open Go.RowKit

def ky0 : Ky := ⟨⟨#[]⟩, 0, 0⟩
def RrRet (n : Nat) (R : Option (Ky × ByteArray)) (w : World) (e : Ending) (w' : World) : Prop := Fr No w w' ∧
  ((R = none ∧ e = .returned (.tuple #[kyV ky0, .string ⟨#[]⟩, .bool false])) ∨ ∃ x v, R = some (x, v) ∧ v.size ≤ n ∧ e = .returned (.tuple #[kyV x, .string v, .bool true]))
theorem rr_results (tmps : Array Value) (w : World) (g : Nat) (t : TypeId) (x y z e e2 : Value) (hp : tmps.getD 2 undef = .pointer (some ⟨g, 0, none⟩)) (he : tmps.getD 3 undef = e) (he2 : tmps.getD 4 undef = e2) (hg : At w g t #[x, y, z]) :
    (results Tryd.f55 tmps).run Tryd.prog w = .ok (.tuple #[.agg #[x, y, z], e, e2]) w := by
  have hp' : tmps[2]?.getD undef = .pointer (some ⟨g, 0, none⟩) := by simpa using hp
  have he' : tmps[3]?.getD undef = e := by simpa using he
  have he2' : tmps[4]?.getD undef = e2 := by simpa using he2
  have hl := run_loadVar_row (P := Tryd.prog) w g t 43 #[x, y, z] (0, 0) _ hg Tryd.underlying43 rfl infoKey
  simp [results, Tryd.results55, hp', he', he2', asAddr, hl]
set_option maxRecDepth 20000 in
set_option maxHeartbeats 3200000 in
theorem readRecord_c (a : Option Addr) (len cap : Nat) (l : List UInt8) (w : World) (hl : l.length = len) (hm : len ≤ 1000000) (hr : Rd w a l) :
    Calls Tryd.prog 55 #[.slice a len cap] w (RrRet l.length (rrR l) w) := by
  have HV : Hid (rrR l = if doneI (textS (textS (l, false)).2).2 = 0 then (match parseS (textS (l, false)).1 with | some (u, q, k) => some (⟨strOf u, q, k⟩, strOf (textS (textS (l, false)).2).1) | none => none) else none) := Lib.hid rfl
  obtain ⟨W0, hW0⟩ : ∃ W, w.alloc (.cells #[.string ⟨#[]⟩, .int .i64 0, .int .i64 0] 43) = W := ⟨_, rfl⟩
  have A0 : At W0 w.heap.size 43 #[.string ⟨#[]⟩, .int .i64 0, .int .i64 0] := by rw [← hW0]; exact At.new _ _ _
  have f0 : Fr No w W0 := by rw [← hW0]; exact (Fr.refl No w).alloc _
  have hlt := A0.lt
  have HA0 := Lib.hid A0
  have HF0 := Lib.hid f0
  have CN := Lib.hid (newRdO a len cap l W0 hl (by omega) (hr.keep f0))
  have HN1 : Hid ((textS (l, false)).1.length ≤ 1000000) := Lib.hid (by have := (textS_len (l, false)).1; simp only at this; omega)
  have HN2 : Hid ((textS (textS (l, false)).2).1.length ≤ l.length) := Lib.hid (by have := (textS_len (textS (l, false)).2).1; have := (textS_len (l, false)).2; simp only at this; omega)
  generalize rrR l = R at *
  clear A0 f0 hr
  go_enter Tryd.func55, Tryd.ntmps55
  go_wp2_with fail
  try rw [hW0]
  refine (show Calls _ _ _ _ _ from CN.out).mono ?_
  rintro e w1 ⟨B, rfl, ho⟩
  have HO := Lib.hid ho
  clear ho CN
  go_wp2_with fail
  refine (RdO.text HO.out).mono ?_
  rintro e w2 ⟨ka, kc, rfl, kin, k1, k2, ho, kf⟩
  have HO := Lib.hid ho
  have HK := Lib.hid kin
  clear ho kf kin
  go_wp2_with fail
  refine (RdO.text HO.out).mono ?_
  rintro e w3 ⟨va, vc, rfl, vin, v1, v2, ho, vf⟩
  have HK := Lib.hid (HK.out.one vf)
  have HVI := Lib.hid vin
  have CD := Lib.hid ho.done
  have HF3 := Lib.hid (HF0.out.trans ho.fr)
  have HA3 := Lib.hid (HA0.out.keep ho.fr (fun h => h))
  clear ho vf vin HO HA0 HF0
  generalize (textS (textS (l, false)).2).2 = st at *
  generalize (textS (textS (l, false)).2).1 = vl at *
  generalize (textS (l, false)).1 = kl at *
  generalize doneI st = D at *
  obtain ⟨kn, hkn⟩ : ∃ n, kl.length = n := ⟨_, rfl⟩
  obtain ⟨vn, hvn⟩ : ∃ n, vl.length = n := ⟨_, rfl⟩
  have HKN := Lib.hid hkn
  have HVN := Lib.hid hvn
  rw [hkn] at k1 HN1
  rw [hvn] at v1 HN2
  rw [hkn, hvn]
  clear hkn hvn
  go_wp2_with fail
  refine (show Calls _ _ _ _ _ from CD.out).mono ?_
  rintro e w' ⟨rfl, rfl⟩
  clear CD
  by_cases hD : D = 0
  · subst hD
    rw [if_pos (by trivial)] at HV
    have CP := Lib.hid (parse_c ka kn kc kl w3 HKN.out k1 (by have := HN1.out; omega) HK.out.rd)
    clear HK
    go_wp2_with fail
    refine (show Calls _ _ _ _ _ from CP.out).mono ?_
    rintro e w4 ⟨hf4, hret⟩
    have A4 := HA3.out.keep hf4 (fun h => h)
    have HF4 := Lib.hid (HF3.out.trans hf4)
    have HVI := Lib.hid (HVI.out.noN hf4)
    have g0 := A4.frozen 0
    have g1 := A4.frozen 1
    have g2 := A4.frozen 2
    have c0 := A4.cell 0
    have c1 := A4.cell 1
    have c2 := A4.cell 2
    simp at c0 c1 c2
    rcases hret with ⟨hn, rfl⟩ | ⟨u, q, k, hs, rfl⟩
    · have zs := Lib.hid (key_store A4 HF4.out (Nat.le_refl _) (.string ⟨#[]⟩) (.int .i64 0) (.int .i64 0))
      have zs2 := Lib.hid (key_store zs.out.1 zs.out.2 (Nat.le_refl _) (.string ⟨#[]⟩) (.int .i64 0) (.int .i64 0))
      have d0 := zs.out.1.frozen 0
      have HR := Lib.hid (HV.out.trans (by rw [hn]))
      clear A4 hf4 hn HV
      go_wp2_with fail
      refine bodyPost_ret (v := .tuple #[.agg #[.string ⟨#[]⟩, .int .i64 0, .int .i64 0], .string ⟨#[]⟩, .bool false]) (rr_results _ _ w.heap.size 43 _ _ _ _ _ rfl rfl rfl zs2.out.1) rfl ?_
      exact ⟨zs2.out.2, .inl ⟨HR.out, rfl⟩⟩
    · have zs := Lib.hid (key_store A4 HF4.out (Nat.le_refl _) (.string (strOf u)) (.int .i64 q) (.int .i64 k))
      have HR := Lib.hid (show R = some (⟨strOf u, q, k⟩, strOf vl) from HV.out.trans (by rw [hs]))
      have HVS : Hid ((strOf vl).size ≤ l.length) := Lib.hid (by rw [size_strOf, HVN.out]; exact HN2.out)
      have f5 : Fr (One w.heap.size) w4 (((w4.setCell ⟨w.heap.size, 0, none⟩ (.string (strOf u))).setCell ⟨w.heap.size, 1, none⟩ (.int .i64 q)).setCell ⟨w.heap.size, 2, none⟩ (.int .i64 k)) :=
        (((Fr.refl (One w.heap.size) w4).setCell (p := ⟨w.heap.size, 0, none⟩) (fun _ => (rfl : w.heap.size = w.heap.size)) _).setCell (p := ⟨w.heap.size, 1, none⟩) (fun _ => (rfl : w.heap.size = w.heap.size)) _).setCell (p := ⟨w.heap.size, 2, none⟩) (fun _ => (rfl : w.heap.size = w.heap.size)) _
      have HV5 := Lib.hid (HVI.out.keep f5 (fun k hk hh => by have hh : k = w.heap.size := hh; omega))
      obtain ⟨su, hsu⟩ : ∃ s, strOf u = s := ⟨_, rfl⟩
      rw [hsu] at zs HR f5 HV5 ⊢
      have HF5 := Lib.hid f5
      have HA5 := Lib.hid zs.out.1
      have HF0 := Lib.hid zs.out.2
      have HZ := zs
      have hcvA := conv_rd w4 va vn vc vl HVN.out HVI.out.rd
      clear A4 hf4 hs HV hsu f5 zs
      go_wp2_with fail
      obtain ⟨w5, hw5⟩ : ∃ w5, ((w4.setCell ⟨w.heap.size, 0, none⟩ (.string su)).setCell ⟨w.heap.size, 1, none⟩ (.int .i64 q)).setCell ⟨w.heap.size, 2, none⟩ (.int .i64 k) = w5 := ⟨_, rfl⟩
      rw [hw5] at HF5 HA5 HF0 HV5 HZ ⊢
      have c0 := HA5.out.cell 0
      have c1 := HA5.out.cell 1
      have c2 := HA5.out.cell 2
      have g0 := HA5.out.frozen 0
      have g1 := HA5.out.frozen 1
      have g2 := HA5.out.frozen 2
      simp at c0 c1 c2
      have hcv5 := conv_rd w5.drew va vn vc vl HVN.out (HV5.out.keep (Fr.refl No w5).drew (fun _ _ h => h)).rd
      have f6 : Fr (One w.heap.size) w5 (((w5.setCell ⟨w.heap.size, 0, none⟩ (.string su)).setCell ⟨w.heap.size, 1, none⟩ (.int .i64 q)).setCell ⟨w.heap.size, 2, none⟩ (.int .i64 k)).drew :=
        (((Fr.refl (One w.heap.size) w5).setCell (p := ⟨w.heap.size, 0, none⟩) (fun _ => (rfl : w.heap.size = w.heap.size)) _).setCell (p := ⟨w.heap.size, 1, none⟩) (fun _ => (rfl : w.heap.size = w.heap.size)) _).setCell (p := ⟨w.heap.size, 2, none⟩) (fun _ => (rfl : w.heap.size = w.heap.size)) _ |>.drew
      have hcv6 := conv_rd _ va vn vc vl HVN.out (HV5.out.keep f6 (fun k hk hh => by have hh : k = w.heap.size := hh; omega)).rd
      have HZ5 := Lib.hid (key_store HA5.out HF0.out (Nat.le_refl _) (.string su) (.int .i64 q) (.int .i64 k))
      clear hw5 f6
      go_region
      go_wp2_with fail
      refine bodyPost_ret (v := .tuple #[.agg #[.string su, .int .i64 q, .int .i64 k], .string (strOf vl), .bool true]) (rr_results _ _ w.heap.size 43 _ _ _ _ _ rfl rfl rfl (HZ5.out.1.keep (Fr.refl No _).drew (fun h => h))) rfl ?_
      exact ⟨HZ5.out.2.drew, .inr ⟨_, _, HR.out, HVS.out, rfl⟩⟩
  · have e1 : (D != 0) = true := by rw [bne_iff_ne]; exact hD
    have A4 := HA3.out
    have g0 := A4.frozen 0
    have g1 := A4.frozen 1
    have g2 := A4.frozen 2
    have c0 := A4.cell 0
    have c1 := A4.cell 1
    have c2 := A4.cell 2
    simp at c0 c1 c2
    have zs := Lib.hid (key_store A4 HF3.out (Nat.le_refl _) (.string ⟨#[]⟩) (.int .i64 0) (.int .i64 0))
    have HR := Lib.hid (HV.out.trans (if_neg hD))
    clear A4 hD HV
    go_wp2_with fail
    refine bodyPost_ret (v := .tuple #[.agg #[.string ⟨#[]⟩, .int .i64 0, .int .i64 0], .string ⟨#[]⟩, .bool false]) (rr_results _ _ w.heap.size 43 _ _ _ _ _ rfl rfl rfl zs.out.1) rfl ?_
    exact ⟨zs.out.2, .inl ⟨HR.out, rfl⟩⟩
end Go.Proofs.YtihahckjcedceaaDoor
