/-
  Texts of layer 14 and of what it stands on, one behind the other.
-/
import Derived.Test.YtihahckjcedceaaDoorMg15

/- Layer 7, the program's own device: Opened, Room, mayAppend. -/
namespace Go.Proofs.YtihahckjcedceaaDoor
set_option linter.unusedVariables false
open Go.RowKit

def Quiet (v : Value) (w : World) (e : Ending) (w' : World) : Prop := e = .returned v ∧ Fr No w w'
def opT (xs : List Zm) (j : Nat) : Nat := (xs.take j).countP fun x => x.z.s == 1
theorem opT_all {xs : List Zm} {m : Dev} (h : xs.map Zm.z = m.zs) : opT xs xs.length = opened m := by
  unfold opT opened
  rw [List.take_length, ← h, List.countP_map]
  rfl
theorem opT_next {xs : List Zm} {j : Nat} {x : Zm} (h : xs[j]? = some x) : opT xs (j + 1) = opT xs j + if x.z.s == 1 then 1 else 0 := by
  unfold opT
  rw [List.take_add_one, h, List.countP_append]
  simp [List.countP_cons]
theorem opT_le (xs : List Zm) (j : Nat) : opT xs j ≤ xs.length := Nat.le_trans List.countP_le_length (List.length_take_le' ..)
section
variable {w : World} {d : Nat} {F : Nat → Prop} {m : Dev}
set_option maxHeartbeats 800000 in
theorem opened_c (h : Dz w d F m) (hw : WF m) : Calls Tryd.prog 77 #[.pointer (some ⟨d, 0, none⟩)] w (Is (.int .i64 (opened m : Int)) w) := by
  obtain ⟨_, zb, xs, ar, lf, h1, _, _, _⟩ := h
  obtain ⟨c0, c1, c2, c3, c4, c5, c6, c7⟩ := h1.cells
  have n64 := hw.n64
  have hl := h1.len
  have HC := Lib.hid (fun (k : Nat) (x : Zm) (hx : xs[k]? = some x) => show w.cell? ⟨zb, k * 3 + 2, none⟩ = some (.int .i64 (x.z.s : Int)) by
    rw [h1.hz.cell, List.getElem?_toArray, (zsC_get xs k x hx).2.2])
  have HALL := Lib.hid (opT_all h1.mz)
  rw [hl] at HALL
  have HLE := Lib.hid (opT_le xs)
  have HNX := Lib.hid (fun (j : Nat) (x : Zm) (hx : xs[j]? = some x) => opT_next hx)
  clear h1 hw
  generalize opened m = R at *
  generalize m.zs.length = n at *
  have HL := Lib.hid hl
  clear hl
  go_enter Tryd.func77, Tryd.ntmps77
  go_wp2_with fail
  go_loopw [3, 10] (fun c i wr => ∃ k : Nat, i = .int .i64 k ∧ k ≤ n ∧ c = .int .i64 (opT xs k : Int) ∧ wr = w) (fun _ i _ => n - (intOf i).toNat)
  case atStart => exact ⟨0, rfl, Nat.zero_le _, rfl, rfl⟩
  case round =>
    obtain ⟨k, rfl, hk, rfl, rfl⟩ := hrel
    by_cases h1 : k < n
    · have d1 : decide ((k : Int) < (n : Int)) = true := by rw [decide_eq_true_eq]; omega
      obtain ⟨x, hx⟩ : ∃ x, xs[k]? = some x := ⟨_, List.getElem?_eq_getElem (by rw [HL.out]; exact h1)⟩
      have z2 := HC.out k x hx
      have hn := HNX.out k x hx
      have hle := HLE.out k
      rw [HL.out] at hle
      clear hx
      generalize opT xs k = S at *
      generalize x.z.s = st at *
      by_cases hs : st = 1
      · subst hs
        have hn := Lib.hid hn
        go_wp2_with fail
        go_roundw
        case rel => exact ⟨k + 1, by simp, by omega, by rw [hn.out]; rfl, by simp⟩
        case measure => simp [intOf]; omega
      · have e1 : ((st : Int) == 1) = false := by rw [beq_eq_false_iff_ne]; omega
        rw [show (st == 1) = false by rw [beq_eq_false_iff_ne]; exact hs] at hn
        have hn := Lib.hid hn
        clear hs
        go_wp2_with fail
        go_roundw
        case rel => exact ⟨k + 1, by simp, by omega, by rw [hn.out]; rfl, by simp⟩
        case measure => simp [intOf]; omega
    · obtain rfl : k = n := by omega
      have d1 : decide ((k : Int) < (k : Int)) = false := by simp
      rw [HALL.out]
      go_wp2_with fail
      go_ret
      exact ⟨rfl, rfl⟩
theorem opened_q (h : Dz w d F m) (hw : WF m) (n : Nat) : Calls Tryd.prog 77 #[.pointer (some ⟨d, 0, none⟩)] (w.drewN n) fun e w' => e = .returned (.int .i64 (opened m : Int)) ∧ ∃ m, w' = w.drewN m :=
  (opened_c (h.keep ((Fr.refl No w).drewN n) (fun _ _ h => h)) hw).mono fun e w' ⟨h1, h2⟩ => ⟨h1, n, h2.symm⟩
def roomM (m : Dev) (z : Int) : Int := if !hasZ m z || (zoneM m z).s == 2 then 0 else (m.size : Int) - ((zoneM m z).b.length : Int)
set_option maxHeartbeats 800000 in
theorem room_d (h : Dz w d F m) (hw : WF m) (z : Int) : Calls Tryd.prog 48 #[.pointer (some ⟨d, 0, none⟩), .int .i64 z] w fun e w' => e = .returned (.int .i64 (roomM m z)) ∧ ∃ n, w' = w.drewN n := by
  have C := Lib.hid (has_c h hw z)
  obtain ⟨_, zb, xs, ar, lf, h1, _, _, _⟩ := h
  obtain ⟨c0, c1, c2, c3, c4, c5, c6, c7⟩ := h1.cells
  have HR : Hid (roomM m z = if !hasZ m z || (zoneM m z).s == 2 then 0 else (m.size : Int) - ((zoneM m z).b.length : Int)) := Lib.hid rfl
  have hok := zoneM_ok hw z
  have s64 := hw.s64
  cases H : hasZ m z with
  | false =>
    rw [H] at C HR
    clear h1 hw H hok
    generalize roomM m z = R at *
    go_enter Tryd.func48, Tryd.ntmps48
    go_wp2_with fail
    refine C.out.mono ?_
    rintro e w' ⟨rfl, rfl⟩
    go_wp2_with fail
    go_ret
    exact ⟨by rw [HR.out]; rfl, 0, rfl⟩
  | true =>
    obtain ⟨x, k, rfl, hk, hx, hz, z0, z1, z2⟩ := h1.zone H
    rw [H] at C HR
    rw [← hz] at HR hok
    have hl := hok.l
    clear h1 hw H hx hz hok
    generalize roomM m (k : Int) = R at *
    generalize m.zs.length = n at *
    generalize m.size = sz at *
    generalize x.z.s = st at *
    generalize x.z.b.length = bl at *
    by_cases hs : st = 2
    · subst hs
      go_enter Tryd.func48, Tryd.ntmps48
      go_wp2_with fail
      refine C.out.mono ?_
      rintro e w' ⟨rfl, rfl⟩
      go_wp2_with fail
      go_ret
      exact ⟨by rw [HR.out]; rfl, 0, rfl⟩
    · have e1 : ((st : Int) == 2) = false := by rw [beq_eq_false_iff_ne]; omega
      rw [show (st == 2) = false by rw [beq_eq_false_iff_ne]; exact hs] at HR
      clear hs
      have hs : IntKind.i64.wrap ((sz : Int) - (bl : Int)) = (sz : Int) - (bl : Int) := by
        simp [IntKind.wrap, IntKind.signed, IntKind.bits]
        omega
      go_enter Tryd.func48, Tryd.ntmps48
      go_wp2_with fail
      refine C.out.mono ?_
      rintro e w' ⟨rfl, rfl⟩
      go_wp2_with fail
      go_region
      go_wp2_with fail
      go_ret
      exact ⟨by rw [HR.out]; rfl, 1, rfl⟩
theorem room_c (h : Dz w d F m) (hw : WF m) (z : Int) : Calls Tryd.prog 48 #[.pointer (some ⟨d, 0, none⟩), .int .i64 z] w (Quiet (.int .i64 (roomM m z)) w) :=
  (room_d h hw z).mono fun e w' ⟨h1, n, h2⟩ => ⟨h1, by rw [h2]; exact (Fr.refl No w).drewN n⟩
theorem room_q (h : Dz w d F m) (hw : WF m) (z : Int) (n : Nat) : Calls Tryd.prog 48 #[.pointer (some ⟨d, 0, none⟩), .int .i64 z] (w.drewN n) fun e w' => e = .returned (.int .i64 (roomM m z)) ∧ ∃ m, w' = w.drewN m :=
  Calls.quiet_of (room_d (h.keep ((Fr.refl No w).drewN n) (fun _ _ h => h)) hw z)
theorem appErr_eq (m : Dev) (z : Int) (b : List UInt8) : appErr m z b = if resErr m z = 0 then (if (zoneM m z).s == 2 then 71 else if (zoneM m z).s == 0 && decide (m.opn ≤ opened m) then 72 else if decide (m.size < (zoneM m z).b.length + b.length) then 73 else 0) else resErr m z := by
  unfold appErr resErr
  cases m.down <;> cases hasZ m z <;> rfl
set_option maxHeartbeats 1600000 in
theorem mayAppend_c (h : Dz w d F m) (hw : WF m) (z : Int) (b : List UInt8) (hb : b.length ≤ 1000000) : Calls Tryd.prog 56 #[.pointer (some ⟨d, 0, none⟩), .int .i64 z, .int .i64 (b.length : Int)] w (Quiet (.int .i64 (appErr m z b)) w) := by
  have C := Lib.hid (reach_c h hw z)
  have CO := Lib.hid (opened_q h hw)
  have CR := Lib.hid (fun (w' : World) (f : Fr No w w') => room_c (h.keep f (fun _ _ h => h)) hw z)
  obtain ⟨_, zb, xs, ar, lf, h1, _, _, _⟩ := h
  obtain ⟨c0, c1, c2, c3, c4, c5, c6, c7⟩ := h1.cells
  have HR := Lib.hid (appErr_eq m z b)
  rcases Int.lt_or_le 0 (resErr m z) with hr | hr
  · rw [if_neg (by omega)] at HR
    have e1 : (resErr m z == 0) = false := by rw [beq_eq_false_iff_ne]; omega
    clear h1 hw
    generalize appErr m z b = R at *
    generalize resErr m z = r at *
    clear hr
    go_enter Tryd.func56, Tryd.ntmps56
    go_wp2_with fail
    refine C.out.mono ?_
    rintro e w' ⟨rfl, rfl⟩
    go_wp2_with fail
    go_ret
    exact ⟨by rw [HR.out]; rfl, Fr.refl _ _⟩
  · have hr0 : resErr m z = 0 := by
      have : 0 ≤ resErr m z := by unfold resErr; split <;> (try split) <;> omega
      omega
    rw [if_pos hr0] at HR
    rw [hr0] at C
    obtain ⟨_, H⟩ := resErr_ok hr0
    have hop := hw.op
    have hroom : roomM m z = if (zoneM m z).s == 2 then 0 else (m.size : Int) - ((zoneM m z).b.length : Int) := by
      unfold roomM
      rw [H]
      rfl
    have hok := zoneM_ok hw z
    have s64 := hw.s64
    obtain ⟨x, k, rfl, hk, hx, hz, z0, z1, z2⟩ := h1.zone H
    rw [← hz] at HR hok hroom
    have hl := hok.l
    rw [hroom] at CR
    clear h1 hw H hx hz hok hr hr0 hroom
    generalize appErr m (k : Int) b = R at *
    generalize opened m = on at *
    generalize m.opn = om at *
    generalize m.zs.length = n at *
    generalize m.size = sz at *
    generalize x.z.s = st at *
    generalize x.z.b.length = bl at *
    generalize b.length = nb at *
    by_cases hs : st = 2
    · subst hs
      go_enter Tryd.func56, Tryd.ntmps56
      go_wp2_with fail
      refine C.out.mono ?_
      rintro e w' ⟨rfl, rfl⟩
      go_wp2_with fail
      go_ret
      exact ⟨by rw [HR.out]; rfl, Fr.refl _ _⟩
    have e1 : ((st : Int) == 2) = false := by rw [beq_eq_false_iff_ne]; omega
    rw [show (st == 2) = false by rw [beq_eq_false_iff_ne]; exact hs] at HR CR
    rw [if_neg (by simp)] at HR CR
    clear hs
    have HFULL : Hid (∀ w', Fr No w w' → decide ((sz : Int) - (bl : Int) < (nb : Int)) = decide (sz < bl + nb)) := Lib.hid fun _ _ => by
      rw [decide_eq_decide]
      omega
    by_cases hs : st = 0
    · subst hs
      rw [show ((0 : Nat) == 0) = true from rfl, Bool.true_and] at HR
      by_cases ho : on = om
      · subst ho
        have e2 : ((on : Int) == (on : Int)) = true := by simp
        rw [if_pos (by simp)] at HR
        go_enter Tryd.func56, Tryd.ntmps56
        go_wp2_with fail
        refine C.out.mono ?_
        rintro e w' ⟨rfl, rfl⟩
        go_wp2_with fail
        go_quiet (exact CO.out _)
        go_wp2_with fail
        go_ret
        exact ⟨by rw [HR.out]; rfl, (Fr.refl _ _).drewN _⟩
      · have e2 : ((on : Int) == (om : Int)) = false := by rw [beq_eq_false_iff_ne]; omega
        rw [if_neg (by rw [decide_eq_true_eq]; omega)] at HR
        clear ho hop
        go_enter Tryd.func56, Tryd.ntmps56
        go_wp2_with fail
        refine C.out.mono ?_
        rintro e w' ⟨rfl, rfl⟩
        go_wp2_with fail
        go_quiet (exact CO.out _)
        go_wp2_with fail
        refine (CR.out _ ((Fr.refl _ _).drewN _)).mono ?_
        rintro e w2 ⟨rfl, hf2⟩
        cases hd : decide ((sz : Int) - (bl : Int) < (nb : Int)) with
        | true =>
          have HR2 : Hid (R = 73) := Lib.hid (by rw [HR.out, if_pos (by rw [← HFULL.out _ (Fr.refl _ _)]; exact hd)])
          have HF2 := Lib.hid hf2
          clear hf2
          go_wp2_with fail
          go_ret
          exact ⟨by rw [HR2.out]; rfl, ((Fr.refl _ _).drewN _).trans HF2.out⟩
        | false =>
          have HR2 : Hid (R = 0) := Lib.hid (by rw [HR.out, if_neg (by rw [← HFULL.out _ (Fr.refl _ _), hd]; simp)])
          have HF2 := Lib.hid hf2
          clear hf2
          go_wp2_with fail
          go_ret
          exact ⟨by rw [HR2.out]; rfl, ((Fr.refl _ _).drewN _).trans HF2.out⟩
    · have e2 : ((st : Int) == 0) = false := by rw [beq_eq_false_iff_ne]; omega
      rw [show (st == 0) = false by rw [beq_eq_false_iff_ne]; exact hs, Bool.false_and, if_neg (by simp)] at HR
      clear hs hop
      go_enter Tryd.func56, Tryd.ntmps56
      go_wp2_with fail
      refine C.out.mono ?_
      rintro e w' ⟨rfl, rfl⟩
      go_wp2_with fail
      go_quiet (fail)
      go_wp2_with fail
      refine (CR.out _ ((Fr.refl _ _).drewN _)).mono ?_
      rintro e w2 ⟨rfl, hf2⟩
      cases hd : decide ((sz : Int) - (bl : Int) < (nb : Int)) with
      | true =>
        have HR2 : Hid (R = 73) := Lib.hid (by rw [HR.out, if_pos (by rw [← HFULL.out _ (Fr.refl _ _)]; exact hd)])
        have HF2 := Lib.hid hf2
        clear hf2
        go_wp2_with fail
        go_ret
        exact ⟨by rw [HR2.out]; rfl, ((Fr.refl _ _).drewN _).trans HF2.out⟩
      | false =>
        have HR2 : Hid (R = 0) := Lib.hid (by rw [HR.out, if_neg (by rw [← HFULL.out _ (Fr.refl _ _), hd]; simp)])
        have HF2 := Lib.hid hf2
        clear hf2
        go_wp2_with fail
        go_ret
        exact ⟨by rw [HR2.out]; rfl, ((Fr.refl _ _).drewN _).trans HF2.out⟩
end
end Go.Proofs.YtihahckjcedceaaDoor
