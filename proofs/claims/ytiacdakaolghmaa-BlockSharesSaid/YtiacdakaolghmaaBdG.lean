/-
  Layer 12, the program's own: part.
-/
import Derived.Test.YtiacdakaolghmaaBdX
import Derived.Test.YtiacdakaolghmaaWireEa
namespace Go.Proofs.Ytiacdakaolghmaa
set_option linter.unusedVariables false
open Go.RowKit

/-- The pairs' bytes, and Every, by what the end says. -/
def partR (b : List UInt8) : Option (List UInt8 × Nat) :=
  match b.drop (b.length - 5) with
  | [x, y, z, u, v] => if 1 ≤ v.toNat ∧ v.toNat ≤ 64 ∧ wdB x y z u ≤ (b.length - 5) / 4 then some (b.take (b.length - 5 - wdB x y z u * 4), v.toNat) else none
  | _ => none
theorem five {b : List UInt8} (h : b.length = 5) : ∃ x y z u v, b = [x, y, z, u, v] := by
  match b, h with
  | [x, y, z, u, v], _ => exact ⟨x, y, z, u, v, rfl⟩
theorem partR_short {b : List UInt8} (h : b.length < 5) : partR b = none := by
  unfold partR
  split
  · rename_i x y z u v e
    have := congrArg List.length e
    rw [List.length_drop] at this
    simp only [List.length_cons, List.length_nil] at this
    omega
  · rfl
theorem partR_is {b : List UInt8} {x y z u v : UInt8} (h : b.drop (b.length - 5) = [x, y, z, u, v]) : partR b = if 1 ≤ v.toNat ∧ v.toNat ≤ 64 ∧ wdB x y z u ≤ (b.length - 5) / 4 then some (b.take (b.length - 5 - wdB x y z u * 4), v.toNat) else none := by
  unfold partR
  rw [h]
/-- A right block's bytes have these parts. -/
theorem part_block {e : Nat} {l : List Pr} (he : 1 ≤ e) (he2 : e ≤ 64) (hb : (blockB e l).length ≤ 100000) : partR (blockB e l) = some (pairsB e l l.length, e) := by
  have hl := blockB_len e l
  have hd : (blockB e l).drop ((blockB e l).length - 5) = word4 (startsN e l l.length).length ++ [UInt8.ofNat e] := by
    rw [hl]
    unfold blockB
    rw [List.append_assoc, List.drop_append_of_le_length (by rw [List.length_append, wordsB_len]; omega), List.drop_of_length_le (by rw [List.length_append, wordsB_len]; omega), List.nil_append]
  have hs : (startsN e l l.length).length < 4294967296 := by omega
  obtain ⟨x, y, z, u, hw⟩ : ∃ x y z u, word4 (startsN e l l.length).length = [x, y, z, u] := ⟨_, _, _, _, rfl⟩
  have hwd := wdB_word4 hs hw
  rw [hw] at hd
  rw [partR_is hd, hwd, toNat_ofNat (by omega), if_pos ⟨he, he2, by omega⟩, hl]
  congr 2
  unfold blockB
  rw [List.append_assoc, List.append_assoc, List.take_append_of_le_length (by omega), List.take_of_length_le (by omega)]
def PartRet (b : List UInt8) (w : World) (en : Ending) (w' : World) : Prop :=
  Fr No w w' ∧ en = .returned (.tuple (match partR b with | some (p, e) => #[.string (strOf p), .int .i64 (e : Int), .bool true] | none => #[.string emp, .int .i64 0, .bool false]))
theorem part_results (tmps : Array Value) (w : World) (x y z : Value) (h2 : tmps.getD 2 undef = x) (h3 : tmps.getD 3 undef = y) (h4 : tmps.getD 4 undef = z) :
    (results Try.f33 tmps).run Try.prog w = .ok (.tuple #[x, y, z]) w := by
  have h2' : tmps[2]?.getD undef = x := by simpa using h2
  have h3' : tmps[3]?.getD undef = y := by simpa using h3
  have h4' : tmps[4]?.getD undef = z := by simpa using h4
  simp [results, Try.results33, h2', h3', h4']
set_option maxRecDepth 20000 in
set_option maxHeartbeats 3200000 in
theorem part_c (a : Option Addr) (n cap : Nat) (b : List UInt8) (w : World) (hn : b.length = n) (hc : n ≤ cap) (hm : cap ≤ maxLen) (h1 : n ≤ 100000) (hr : Rd w a b) :
    Calls Try.prog 33 #[.slice a n cap] w (PartRet b w) := by
  by_cases h5 : n < 5
  · have HP : Hid (PartRet b w (.returned (.tuple #[.string ⟨#[]⟩, .int .i64 0, .bool false])) w) := Lib.hid ⟨Fr.refl _ _, by rw [partR_short (by omega)]; rfl⟩
    have d1 : decide ((n : Int) - 4 - 1 < 0) = true := by rw [decide_eq_true_eq]; omega
    clear hr hn
    go_enter Try.func33, Try.ntmps33
    go_wp2_with fail
    refine bodyPost_ret (part_results _ _ _ _ _ rfl rfl rfl) rfl ?_
    exact HP.out
  · obtain ⟨E, hE⟩ : ∃ E, n - 5 = E := ⟨_, rfl⟩
    have hbd : (b.drop E).length = 5 := by rw [List.length_drop]; omega
    obtain ⟨x, y, z, u, v, hd⟩ := five hbd
    have hpr := partR_is (b := b) (x := x) (y := y) (z := z) (u := u) (v := v) (by rw [hn, hE]; exact hd)
    rw [hn, hE] at hpr
    have HR4 : Rd w (cutAt a E cap) [x, y, z, u] := by
      have := (hr.drop E cap (by omega)).take 4
      rw [hd] at this
      exact this
    have CP := Lib.hid (parse_b (cutAt a E cap) (cap - E) x y z u w HR4)
    have hEi : (n : Int) - 4 - 1 = (E : Int) := by omega
    have hE0 : ¬ (E : Int) < 0 := by omega
    obtain ⟨E4, hE4⟩ : ∃ E4, E + 4 = E4 := ⟨_, rfl⟩
    have hE4i : (E : Int) + 4 = (E4 : Int) := by omega
    have S1 := cut_both (P := Try.prog) Try.underlying25 sizeU8 a n cap E E4 (by omega) (by omega)
    rw [show E4 - E = 4 by omega] at S1
    have hv : b.getD E4 0 = v := by
      have h9 : b[E4]? = (b.drop E)[4]? := by rw [List.getElem?_drop, hE4]
      rw [List.getD_eq_getElem?_getD, h9, hd]
      rfl
    obtain ⟨B, o, rfl, hcell⟩ := hr (by omega)
    have c4 := hcell E4 (by omega)
    rw [hv] at c4
    have HCELL := Lib.hid hcell
    have hE4n : (E4 : Int) < (n : Int) := by omega
    have hE40 : (0 : Int) ≤ (E4 : Int) := by omega
    obtain ⟨vn, hvn⟩ : ∃ vn, v.toNat = vn := ⟨_, rfl⟩
    rw [hvn] at c4 hpr
    obtain ⟨wd, hwd⟩ : ∃ wd, wdB x y z u = wd := ⟨_, rfl⟩
    have hwl := wdB_lt x y z u
    rw [hwd] at CP hpr hwl
    have CR := Lib.hid (fun w => right_c (vn : Int) w)
    have hvl : vn < 256 := by rw [← hvn]; exact v.toNat_lt
    have HR := Lib.hid hr
    have HN := Lib.hid hn
    have HPR := Lib.hid hpr
    clear hr hd hbd HR4 hv hvn hwd hcell hpr hE4 hE hn
    by_cases hrt : 1 ≤ vn ∧ vn ≤ 64
    · have hre : rightE (vn : Int) = true := by unfold rightE; rw [decide_eq_true (by omega), decide_eq_true (by omega)]; rfl
      by_cases hwq : wd ≤ E / 4
      · have d1 : decide ((wd : Int) > (E : Int) / 4) = false := by rw [decide_eq_false_iff_not]; omega
        obtain ⟨m, hm'⟩ : ∃ m, E - wd * 4 = m := ⟨_, rfl⟩
        have hmi : (E : Int) - (wd : Int) * 4 = (m : Int) := by omega
        have S2 := cut_hi (P := Try.prog) Try.underlying25 sizeU8 (some ⟨B, o, none⟩) n cap m (by omega)
        have HCV : Hid (∀ w', Fr No w w' → (convert 25 9 (.slice (some ⟨B, o, none⟩) m cap)).run Try.prog w' = .ok (.string (strOf (b.take m))) w') := Lib.hid fun w' f => conv_rd w' _ m cap (b.take m) (by rw [List.length_take, HN.out]; omega) (((In.of_rd HR.out).keep f (fun _ _ h => h)).rd.take m)
        have HPR2 : Hid (partR b = some (b.take m, vn)) := Lib.hid (by rw [HPR.out, if_pos ⟨hrt.1, hrt.2, hwq⟩, hm'])
        have HVB : Hid (∀ w', Fr No w w' → PartRet b w (.returned (.tuple #[.string (strOf (b.take m)), .int .i64 (vn : Int), .bool true])) w') := Lib.hid fun w' f => ⟨f, by rw [HPR2.out]⟩
        generalize strOf (b.take m) = sm at *
        clear hm'
        go_enter Try.func33, Try.ntmps33
        go_wp2_with fail
        refine (show Calls _ _ _ _ _ from CP.out).mono ?_
        rintro e1 w1 ⟨rfl, f1⟩
        have c4 := f1.cell c4 (fun h => h)
        have hcv := HCV.out w1 f1
        have HP := Lib.hid (HVB.out w1 f1)
        clear f1
        go_wp2_with fail
        refine (show Calls _ _ _ _ _ from CR.out w1).mono ?_
        rintro e2 w2 ⟨rfl, rfl⟩
        rw [hre]
        go_wp2_with fail
        refine bodyPost_ret (part_results _ _ _ _ _ rfl rfl rfl) rfl ?_
        exact HP.out
      · have d1 : decide ((wd : Int) > (E : Int) / 4) = true := by rw [decide_eq_true_eq]; omega
        have HPN : Hid (partR b = none) := Lib.hid (by rw [HPR.out, if_neg (fun h => hwq h.2.2)])
        go_enter Try.func33, Try.ntmps33
        go_wp2_with fail
        refine (show Calls _ _ _ _ _ from CP.out).mono ?_
        rintro e1 w1 ⟨rfl, f1⟩
        have c4 := f1.cell c4 (fun h => h)
        have HF1 := Lib.hid f1
        have HP : Hid (PartRet b w (.returned (.tuple #[.string ⟨#[]⟩, .int .i64 0, .bool false])) w1) := Lib.hid ⟨f1, by rw [HPN.out]; rfl⟩
        clear f1
        go_wp2_with fail
        refine (show Calls _ _ _ _ _ from CR.out w1).mono ?_
        rintro e2 w2 ⟨rfl, rfl⟩
        rw [hre]
        go_wp2_with fail
        refine bodyPost_ret (part_results _ _ _ _ _ rfl rfl rfl) rfl ?_
        exact HP.out
    · have hre : rightE (vn : Int) = false := by
        unfold rightE
        by_cases h : 1 ≤ vn
        · rw [decide_eq_true (by omega), decide_eq_false (by omega)]; rfl
        · rw [decide_eq_false (by omega)]; rfl
      have HPN : Hid (partR b = none) := Lib.hid (by rw [HPR.out, if_neg (fun h => hrt ⟨h.1, h.2.1⟩)])
      go_enter Try.func33, Try.ntmps33
      go_wp2_with fail
      refine (show Calls _ _ _ _ _ from CP.out).mono ?_
      rintro e1 w1 ⟨rfl, f1⟩
      have c4 := f1.cell c4 (fun h => h)
      have HF1 := Lib.hid f1
      have HP : Hid (PartRet b w (.returned (.tuple #[.string ⟨#[]⟩, .int .i64 0, .bool false])) w1) := Lib.hid ⟨f1, by rw [HPN.out]; rfl⟩
      clear f1
      go_wp2_with fail
      refine (show Calls _ _ _ _ _ from CR.out w1).mono ?_
      rintro e2 w2 ⟨rfl, rfl⟩
      rw [hre]
      go_wp2_with fail
      refine bodyPost_ret (part_results _ _ _ _ _ rfl rfl rfl) rfl ?_
      exact HP.out
end Go.Proofs.Ytiacdakaolghmaa
