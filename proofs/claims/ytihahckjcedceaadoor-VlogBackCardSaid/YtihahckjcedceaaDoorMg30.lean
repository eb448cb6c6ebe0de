/-
  Texts of layer 14 and of what it stands on, one behind the other.
-/
import Derived.Test.YtihahckjcedceaaDoorMg26
import Derived.Test.YtihahckjcedceaaDoorMg25

/- Contracts of layer 3's readTail and Parse. -/
namespace Go.Proofs.YtihahckjcedceaaDoor
set_option linter.unusedVariables false
open Go.RowKit

theorem ofInt64K (a : Nat) (ha : a < 9223372036854775808) : (BitVec.ofInt 64 (a : Int)).toNat = a := by
  rw [BitVec.ofInt_natCast, BitVec.toNat_ofNat]
  exact Nat.mod_eq_of_lt (by omega)
theorem or_i64K (a b : Nat) (ha : a < 9223372036854775808) (hb : b < 9223372036854775808) : bits .or .i64 (a : Int) (b : Int) = ((a ||| b : Nat) : Int) := by
  have hx : a ||| b < 2 ^ 63 := Nat.or_lt_two_pow (by omega) (by omega)
  show IntKind.i64.wrap ((BitVec.ofInt 64 (a : Int) ||| BitVec.ofInt 64 (b : Int)).toNat : Int) = _
  rw [BitVec.toNat_or, ofInt64K a ha, ofInt64K b hb, IntKind.wrap_i64]
  omega
theorem or_byte (v c : Nat) (hv : v < 1099511627776) (hc : c < 256) : bits .or .i64 ((v : Int) * 256) (c : Int) = ((v * 256 + c : Nat) : Int) := by
  have h := Nat.shiftLeft_add_eq_or_of_lt (i := 8) (b := c) (by omega) v
  rw [Nat.shiftLeft_eq] at h
  have e : ((v : Int) * 256) = ((v * 2 ^ 8 : Nat) : Int) := by omega
  rw [e, or_i64K _ _ (by omega) (by omega), ← h]
def valN (t : List UInt8) : Nat := t.foldl (fun n c => n * 256 + c.toNat) 0
theorem valN_take (t : List UInt8) (j : Nat) (h : j < t.length) : valN (t.take (j + 1)) = valN (t.take j) * 256 + (t.getD j 0).toNat := by
  rw [List.take_add_one]
  unfold valN
  rw [List.foldl_append]
  simp [List.getD, List.getElem?_eq_getElem h]
theorem valN_lt (t : List UInt8) : ∀ j, valN (t.take j) < 256 ^ j := by
  intro j
  induction j with
  | zero => simp [valN]
  | succ j ih =>
    rcases Nat.lt_or_ge j t.length with h | h
    · rw [valN_take t j h, Nat.pow_succ]
      have := (t.getD j 0).toNat_lt
      omega
    · rw [List.take_of_length_le (by omega)] at ih ⊢
      rw [Nat.pow_succ]; omega
set_option maxRecDepth 20000 in
set_option maxHeartbeats 1000000 in
theorem readTail_c (a : Option Addr) (cap : Nat) (t : List UInt8) (w : World) (hl : t.length = 7) (hcap : 7 ≤ cap) (hr : Rd w a t) :
    Calls Tryd.prog 88 #[.slice a 7 cap] w fun e w' => e = .returned (.tuple #[.int .i64 (seqOf t), .int .i64 (kindOf t)]) ∧ Fr No w w' := by
  obtain ⟨b, o, rfl, hc⟩ := hr (by omega)
  rw [hl] at hc
  have ks := cut_hi (P := Tryd.prog) Tryd.underlying51 sizeU8K (some ⟨b, o, none⟩) 7 cap 6 (by omega)
  rw [show ((6 : Nat) : Int) = 6 from rfl] at ks
  have HC := Lib.hid hc
  have HL := Lib.hid hl
  clear hc hl hr
  go_enter Tryd.func88, Tryd.ntmps88
  go_wp2_with fail
  go_loopw [4, 10] (fun n i wr => ∃ j v : Nat, i = .int .i64 j ∧ j ≤ 6 ∧ n = .int .i64 v ∧ v = valN (t.take j) ∧ wr = w) (fun _ i _ => 6 - (intOf i).toNat)
  case atStart => exact ⟨0, 0, rfl, by omega, rfl, by simp [valN], rfl⟩
  case round =>
    obtain ⟨j, v, rfl, hj, rfl, hv, rfl⟩ := hrel
    have hlt := valN_lt t j
    rw [← hv] at hlt
    have hpow : 256 ^ j ≤ 281474976710656 := Nat.pow_le_pow_right (by omega) hj
    by_cases h1 : j < 6
    · have hpow5 : 256 ^ j ≤ 1099511627776 := Nat.pow_le_pow_right (n := 256) (by omega) (show j ≤ 5 by omega)
      have c0 := HC.out j (by omega)
      have HV := Lib.hid (valN_take t j (by rw [HL.out]; omega))
      rw [← hv] at HV
      have hcc := (t.getD j 0).toNat_lt
      generalize t.getD j 0 = c at c0 HV hcc
      have hv2 : v < 1099511627776 := by omega
      clear hlt hpow hpow5 hv
      have HO := or_byte v c.toNat hv2 hcc
      rw [show ((v * 256 + c.toNat : Nat) : Int) = (v : Int) * 256 + (c.toNat : Int) by omega] at HO
      go_wp2_with fail
      go_roundw
      case rel => exact ⟨j + 1, v * 256 + c.toNat, by simp, by omega, by simp, HV.out.symm, trivial⟩
      case measure => simp [intOf]; omega
    · have hj6 : j = 6 := by omega
      subst hj6
      have c6 := HC.out 6 (by omega)
      have hv' : v = val6 t := hv
      have HN : Hid ((1099511627776 : Int) - (v : Int) = seqOf t ∧ (255 : Int) - ((t.getD 6 0).toNat : Int) = kindOf t) := Lib.hid ⟨by rw [hv']; rfl, rfl⟩
      have hcc := (t.getD 6 0).toNat_lt
      clear hv hv' hpow
      generalize t.getD 6 0 = c at c6 HN hcc
      go_wp2_with fail
      go_quiet (fail)
      go_wp2_with fail
      go_ret2
      refine ⟨?_, (Fr.refl No _).drewN _⟩
      rw [← HN.out.1, ← HN.out.2]
      rfl

def ParseRet (l : List UInt8) (w : World) (e : Ending) (w' : World) : Prop := Fr No w w' ∧
  ((parseS l = none ∧ e = .returned (.tuple #[.agg #[.string ⟨#[]⟩, .int .i64 0, .int .i64 0], .int .i64 30])) ∨
   ∃ u q k, parseS l = some (u, q, k) ∧ e = .returned (.tuple #[.agg #[.string (strOf u), .int .i64 q, .int .i64 k], .int .i64 0]))
theorem infoKey : (Tryd.prog.info? 43).map (·.size) = some 3 := by kernel_rfl
theorem parse_results (tmps : Array Value) (w : World) (g : Nat) (t : TypeId) (x y z e : Value) (hp : tmps.getD 2 undef = .pointer (some ⟨g, 0, none⟩)) (he : tmps.getD 3 undef = e) (hg : At w g t #[x, y, z]) :
    (results Tryd.f76 tmps).run Tryd.prog w = .ok (.tuple #[.agg #[x, y, z], e]) w := by
  have hp' : tmps[2]?.getD undef = .pointer (some ⟨g, 0, none⟩) := by simpa using hp
  have he' : tmps[3]?.getD undef = e := by simpa using he
  have hl := run_loadVar_row (P := Tryd.prog) w g t 43 #[x, y, z] (0, 0) _ hg Tryd.underlying43 rfl infoKey
  simp [results, Tryd.results76, hp', he', asAddr, hl]
/-- The stores into the result. -/
theorem key_store {S : Nat → Prop} {w0 w : World} {g : Nat} {t : TypeId} {a b c : Value} (h : At w g t #[a, b, c]) (f : Fr S w0 w) (hg : w0.heap.size ≤ g) (x y z : Value) :
    At (((w.setCell ⟨g, 0, none⟩ x).setCell ⟨g, 1, none⟩ y).setCell ⟨g, 2, none⟩ z) g t #[x, y, z] ∧ Fr S w0 (((w.setCell ⟨g, 0, none⟩ x).setCell ⟨g, 1, none⟩ y).setCell ⟨g, 2, none⟩ z) :=
  ⟨((h.set_ 0 x).set_ 1 y).set_ 2 z, ((f.setCell (fun h => absurd h (Nat.not_lt_of_le hg)) x).setCell (fun h => absurd h (Nat.not_lt_of_le hg)) y).setCell (fun h => absurd h (Nat.not_lt_of_le hg)) z⟩
set_option maxRecDepth 20000 in
set_option maxHeartbeats 2000000 in
theorem parse_c (a : Option Addr) (len cap : Nat) (l : List UInt8) (w : World) (hl : l.length = len) (hcap : len ≤ cap) (hm : len ≤ 140737488355328) (hr : Rd w a l) :
    Calls Tryd.prog 76 #[.slice a len cap] w (ParseRet l w) := by
  have C0 := Lib.hid (fun w hr => cutUser_c a len cap l w hl hcap hm hr)
  have HR := Lib.hid hr
  clear hl hr
  go_enter Tryd.func76, Tryd.ntmps76
  go_wp2_with fail
  have A1 : At _ w.heap.size _ _ := At.new w 43 #[.string ⟨#[]⟩, .int .i64 0, .int .i64 0]
  have hf0 := (Fr.refl No w).alloc (.cells #[.string ⟨#[]⟩, .int .i64 0, .int .i64 0] 43)
  generalize w.alloc (.cells #[.string ⟨#[]⟩, .int .i64 0, .int .i64 0] 43) = W at *
  refine (C0.out _ (HR.out.keep hf0)).mono ?_
  rintro e w1 ⟨hf1, hret⟩
  have A2 := A1.keep hf1 (fun h => h)
  have hf1 := hf0.trans hf1
  have c0 := A2.cell 0
  have c1 := A2.cell 1
  have c2 := A2.cell 2
  have g0 := A2.frozen 0
  have g1 := A2.frozen 1
  have g2 := A2.frozen 2
  simp at c0 c1 c2
  have zs := Lib.hid (key_store A2 hf1 (Nat.le_refl _) (.string ⟨#[]⟩) (.int .i64 0) (.int .i64 0))
  have HF1 := Lib.hid hf1
  have HA2 := Lib.hid A2
  clear A1 A2 hf0 hf1 HR C0
  rcases hret with ⟨hn, rfl⟩ | ⟨u, t, a', n', c', hs, hlt, hlm, hlc, hrt, rfl⟩
  · have HP := Lib.hid (show parseS l = none by unfold parseS; rw [hn])
    clear hn
    go_wp2_with fail
    refine bodyPost_ret (v := .tuple #[.agg #[.string ⟨#[]⟩, .int .i64 0, .int .i64 0], .int .i64 30]) (parse_results _ _ w.heap.size 43 _ _ _ _ rfl rfl zs.out.1) rfl ?_
    exact ⟨zs.out.2, .inl ⟨HP.out, rfl⟩⟩
  · by_cases h7 : n' = 7
    · subst h7
      have C2 := Lib.hid (readTail_c a' c' t w1 hlt hlc hrt)
      have hu : (strOf u).size = u.length := size_of_list u
      have HP0 := Lib.hid (show parseS l = if t.length = 7 ∧ Rt u.length (seqOf t) (kindOf t) then some (u, seqOf t, kindOf t) else none by unfold parseS; rw [hs])
      rw [← hu] at HP0
      have HT := Lib.hid hlt
      obtain ⟨su, hsu⟩ : ∃ su, strOf u = su := ⟨_, rfl⟩
      have HSU := Lib.hid hsu
      rw [hsu] at HP0 hu ⊢
      clear hsu
      generalize seqOf t = q at *
      generalize kindOf t = k at *
      clear hs hlt hrt zs c0 c1 c2 g0 g1 g2 hu
      go_wp2_with fail
      refine C2.out.mono ?_
      rintro e w2 ⟨rfl, hf2⟩
      have A2 := (HA2.out.keep hf2 (fun h => h)).keep ((Fr.refl No w2).alloc (.cells #[.string su, .int .i64 q, .int .i64 k] 43)) (fun h => h)
      have B2 : At _ w2.heap.size _ _ := At.new w2 43 #[.string su, .int .i64 q, .int .i64 k]
      have hf2 := (HF1.out.trans hf2).alloc (.cells #[.string su, .int .i64 q, .int .i64 k] 43)
      go_wp2_with fail
      generalize w2.alloc (.cells #[.string su, .int .i64 q, .int .i64 k] 43) = W2 at *
      clear C2 HA2
      by_cases hrt : Rt su.size q k
      · refine (check_yes su q k _ hrt).mono ?_
        rintro e w3 ⟨rfl, hf3⟩
        have A3 := A2.keep hf3 (fun h => h)
        have B3 := B2.keep hf3 (fun h => h)
        have hf3 := hf2.trans hf3
        have zs := Lib.hid (key_store A3 hf3 (Nat.le_refl _) (.string su) (.int .i64 q) (.int .i64 k))
        have HP := Lib.hid (HP0.out.trans (if_pos ⟨HT.out, hrt⟩))
        have c0 := A3.cell 0
        have c1 := A3.cell 1
        have c2 := A3.cell 2
        have g0 := A3.frozen 0
        have g1 := A3.frozen 1
        have g2 := A3.frozen 2
        have b0 := B3.cell 0
        have b1 := B3.cell 1
        have b2 := B3.cell 2
        simp at c0 c1 c2 b0 b1 b2
        clear A2 A3 B2 B3 hf2 hf3 hrt HP0
        go_wp2_with fail
        refine bodyPost_ret (v := .tuple #[.agg #[.string su, .int .i64 q, .int .i64 k], .int .i64 0]) (parse_results _ _ w.heap.size 43 _ _ _ _ rfl rfl zs.out.1) rfl ?_
        exact ⟨zs.out.2, .inr ⟨u, q, k, HP.out, by rw [HSU.out]⟩⟩
      · refine (check_no su q k _ hrt).mono ?_
        rintro e w3 ⟨rfl, hf3⟩
        have A3 := A2.keep hf3 (fun h => h)
        have hf3 := hf2.trans hf3
        have zs := Lib.hid (key_store A3 hf3 (Nat.le_refl _) (.string ⟨#[]⟩) (.int .i64 0) (.int .i64 0))
        have HP := Lib.hid (HP0.out.trans (if_neg (fun h => hrt h.2)))
        have c0 := A3.cell 0
        have c1 := A3.cell 1
        have c2 := A3.cell 2
        have g0 := A3.frozen 0
        have g1 := A3.frozen 1
        have g2 := A3.frozen 2
        simp at c0 c1 c2
        clear A2 A3 B2 hf2 hf3 hrt HP0
        go_wp2_with fail
        refine bodyPost_ret (v := .tuple #[.agg #[.string ⟨#[]⟩, .int .i64 0, .int .i64 0], .int .i64 30]) (parse_results _ _ w.heap.size 43 _ _ _ _ rfl rfl zs.out.1) rfl ?_
        exact ⟨zs.out.2, .inl ⟨HP.out, rfl⟩⟩
    · have HP := Lib.hid (show parseS l = none by unfold parseS; rw [hs]; exact if_neg (fun h => h7 (hlt.symm.trans h.1)))
      clear hs hlt hrt
      go_wp2_with fail
      refine bodyPost_ret (v := .tuple #[.agg #[.string ⟨#[]⟩, .int .i64 0, .int .i64 0], .int .i64 30]) (parse_results _ _ w.heap.size 43 _ _ _ _ rfl rfl zs.out.1) rfl ?_
      exact ⟨zs.out.2, .inl ⟨HP.out, rfl⟩⟩
end Go.Proofs.YtihahckjcedceaaDoor
