/-
  Layer 4: contracts of a filter's Bytes and of Parse.
-/
import Derived.Test.YtbglicndccdaiaaDoorBlL
import Derived.PlainAid
namespace Go.Proofs.YtbglicndccdaiaaDoor
set_option linter.unusedVariables false
set_option linter.unusedSimpArgs false
open Go.RowKit

theorem sizeU8 (w : World) : (sizeOf 5).run Tryd.prog w = .ok 1 w := size_one cellsU8 (by
  obtain ⟨i0, hi, _, hz1, _⟩ := info_parts infoU8
  exact ⟨i0, hi, hz1⟩) w
set_option maxRecDepth 20000 in
set_option maxHeartbeats 2000000 in
set_option maxRecDepth 20000 in
set_option maxHeartbeats 1000000 in
theorem fbytes_c (b g : Nat) (bs : List UInt8) (p : Nat) (w : World) (hf : Fil w b g bs p) (hp : p ≤ 64) (hn : bs.length ≤ 1000000) :
    Calls Tryd.prog 22 #[.pointer (some ⟨b, 0, none⟩)] w (NewRow (UInt8.ofNat p :: bs) w) := by
  obtain ⟨c, c0, c1, hc1, hc2, hrd⟩ := hf.cells
  obtain ⟨N, hN⟩ : ∃ N, bs.length = N := ⟨_, rfl⟩
  rw [hN] at c1 hc1 hn
  have fa := (Fr.refl No w).alloc (.cells #[.int .u8 (p : Int)] 5)
  have fb := fa.alloc (.cells #[.slice (some ⟨w.heap.size, 0, none⟩) 1 1, .slice (some ⟨g, 0, none⟩) N c] 23)
  have A1 := (At.new' w 5 #[.int .u8 (p : Int)] rfl).alloc (.cells #[.slice (some ⟨w.heap.size, 0, none⟩) 1 1, .slice (some ⟨g, 0, none⟩) N c] 23)
  have A2 := At.new' (w.alloc (.cells #[.int .u8 (p : Int)] 5)) 23 #[.slice (some ⟨w.heap.size, 0, none⟩) 1 1, .slice (some ⟨g, 0, none⟩) N c] (g := w.heap.size + 1) (by simp)
  have R1 : Rd _ (some ⟨w.heap.size, 0, none⟩) [UInt8.ofNat p] := fun _ => ⟨_, _, rfl, fun i hi => by
    have h : i = 0 := by simpa using hi
    subst h
    have := (A1.keep ((Fr.refl No _).drew) (fun h => h)).cell 0
    simp only [Nat.zero_add, List.getD_cons_zero]
    rw [toNat_of p (by omega)]
    exact this⟩
  have CC := Lib.hid (concat_c (w.heap.size + 1) (some ⟨w.heap.size, 0, none⟩) (some ⟨g, 0, none⟩) 1 N c (UInt8.ofNat p) bs _ ((A2.keep ((Fr.refl No _).drew) (fun h => h)).cell 0) ((A2.keep ((Fr.refl No _).drew) (fun h => h)).cell 1) R1 (hrd.keep fb.drew) hN (by omega))
  have HFB := Lib.hid fb.drew
  clear fa fb A1 A2 R1 hrd hf
  have hwp : IntKind.u8.wrap (p : Int) = (p : Int) := by
    rw [IntKind.wrap_u8]
    omega
  go_enter Tryd.func22, Tryd.ntmps22
  go_wp2_with fail
  go_region_held3 (fun w' => w'.cell? ⟨b, 0, none⟩ = some (.int .i64 (p : Int)) ∧ w'.cell? ⟨b, 1, none⟩ = some (.slice (some ⟨g, 0, none⟩) N c)) (first | assumption | go_keep)
    (first
      | (go_at_call 30; refine (show Calls _ _ _ _ _ from CC.out).mono ?_; rintro e w2 ⟨v, rfl, hrow, hfr⟩
         have c0 := hfr.cell (HFB.out.cell c0 (fun h => h)) (fun h => h)
         have c1 := hfr.cell (HFB.out.cell c1 (fun h => h)) (fun h => h)
         have HW := Lib.hid hrow
         have HF := Lib.hid hfr
         clear hrow hfr))
  go_wp2_with fail
  go_ret
  exact ⟨_, rfl, HW.out.sub (fun k _ hk => hk.elim .inl fun h => .inr ⟨Nat.le_trans HFB.out.size h.1, h.2⟩), HFB.out.trans HF.out⟩
/-- What is read is a filter of its own. -/
theorem fil_of_row {w w1 : World} {v : Value} {bs : List UInt8} (p : Nat) (hrow : Row w1 (Gr No w w1) v bs) (h0 : 0 < bs.length) : ∃ g c, v = .slice (some ⟨g, 0, none⟩) bs.length c ∧ w.heap.size ≤ g ∧
    Fil (w1.alloc (.cells #[.int .i64 (p : Int), .slice (some ⟨g, 0, none⟩) bs.length c] 51)) w1.heap.size g bs p := by
  obtain ⟨g, c, hv, hS, _, hc, _⟩ := hrow.at_ (i := 0) h0
  have hg := (hrow.block (k := g) (by rw [hv]; rfl)).2
  refine ⟨g, c, hv, hS.elim (fun h => h.elim) (fun h => h.1), ⟨⟨c, At.new' w1 _ _ rfl, ?_, hc⟩, by omega⟩⟩
  rw [← hv]
  exact (show Row w1 (One g) v bs from ⟨hrow.1, fun k hk => by rw [hv] at hk; exact (Option.some.inj hk).symm⟩).keep ((Fr.refl No w1).alloc _) (fun _ _ h => h)
set_option maxRecDepth 20000 in
set_option maxHeartbeats 1000000 in
theorem parse_c (a : Option Addr) (len cap : Nat) (x : UInt8) (bs : List UInt8) (w : World) (hl : (x :: bs).length = len) (hc : len ≤ cap) (hcm : cap ≤ maxLen) (h9 : 9 ≤ len) (h2 : len ≤ 2097152) (hx1 : 1 ≤ x.toNat) (hx2 : x.toNat ≤ 30) (hr : Rd w a (x :: bs)) :
    Calls Tryd.prog 26 #[.slice a len cap] w fun e w' =>
      ∃ b g, e = .returned (.tuple #[.pointer (some ⟨b, 0, none⟩), .int .i64 0]) ∧ Fil w' b g bs x.toNat ∧ Fr No w w' ∧ w.heap.size ≤ b ∧ w.heap.size ≤ g := by
  unfold maxLen at hcm
  have hdrop := hr.drop 1 cap (by rw [hl]; exact hc)
  rw [List.drop_one, List.tail_cons] at hdrop
  obtain ⟨bb, o, rfl, hcells⟩ := hr (by simp)
  have c0 : w.cell? ⟨bb, o, none⟩ = some (.int .u8 (x.toNat : Int)) := by
    have := hcells 0 (by simp)
    simpa using this
  have hbl : bs.length = len - 1 := by simp at hl; omega
  have ecut : cutAt (some ⟨bb, o, none⟩) 1 cap = some ⟨bb, o + 1, none⟩ := by
    unfold cutAt
    rw [if_neg (by omega)]
    simp [Addr.add]
  rw [ecut] at hdrop
  have CC := Lib.hid (clone_c bb (o + 1) (len - 1) (cap - 1) bs w.drew hbl (by omega) (hdrop.keep ((Fr.refl No w).drew)))
  have K : ∀ w, (Instr.slice 23 (.slice (some ⟨bb, o, none⟩) len cap) (some (.int .i64 1)) none none).run Tryd.prog w = .ok (.slice (some ⟨bb, o + 1, none⟩) (len - 1) (cap - 1)) w := fun w => by
    have h := cut_lo (P := Tryd.prog) (t := 23) (e := 5) Tryd.underlying23 sizeU8 (some ⟨bb, o, none⟩) len cap 1 (by omega) w
    rw [ecut] at h
    exact h
  have CR : ∀ w, Calls Tryd.prog 31 #[.int .i64 (x.toNat : Int)] w fun e w' => e = .returned (.bool true) ∧ w = w' := fun w => by
    have h := right_c (x.toNat : Int) w (by omega) (by omega)
    rwa [decide_eq_true (by omega), decide_eq_true (by omega)] at h
  have CR := Lib.hid CR
  have hbl0 : 0 < bs.length := by omega
  have HBL := Lib.hid hbl
  have hl1 : (0 : Int) < (len : Int) := by omega
  have hl2 : 0 < len := by omega
  have d1 : decide ((len : Int) < 9) = false := decide_eq_false (by omega)
  have d2 : decide (2097152 < (len : Int)) = false := decide_eq_false (by omega)
  generalize x.toNat = X at *
  have hwx : IntKind.i64.wrap (X : Int) = (X : Int) := by
    rw [PlainAid.i64_is]
    unfold wrap64
    omega
  clear hr hl hcells hdrop hbl ecut
  go_enter Tryd.func26, Tryd.ntmps26
  go_wp2_with fail
  refine (CR.out _).mono ?_
  rintro e w1 ⟨rfl, rfl⟩
  go_wp2_with fail
  go_region_held3 (fun w' => w'.cell? ⟨bb, o, none⟩ = some (.int .u8 (X : Int))) (first | assumption | go_keep)
    (first
      | (go_at_call 35; refine (show Calls _ _ _ _ _ from CC.out).mono ?_; rintro e w2 ⟨v, rfl, hrow, hfr⟩
         have c0 := hfr.cell (((Fr.refl No w).drew).cell c0 (fun h => h)) (fun h => h)
         obtain ⟨g, c, hv, hg, hfil⟩ := fil_of_row X hrow hbl0
         subst hv
         rw [HBL.out]
         rw [HBL.out] at hfil
         have HFIL := Lib.hid hfil
         have HF := Lib.hid hfr
         clear hrow hfr hfil))
  all_goals
    go_wp2_with fail
    go_ret2
    have f := ((Fr.refl No w).drew).trans HF.out
    exact ⟨_, g, rfl, HFIL.out, f.alloc _, f.size, hg⟩
/-- What is no filter's is refused. -/
def wrong (l : List UInt8) : Prop := l.length < 9 ∨ 2097152 < l.length ∨ (l.getD 0 0).toNat < 1 ∨ 30 < (l.getD 0 0).toNat
set_option maxHeartbeats 800000 in
theorem parse_no (a : Option Addr) (len cap : Nat) (l : List UInt8) (w : World) (hl : l.length = len) (hc : len ≤ cap) (hcm : cap ≤ maxLen) (hw : wrong l) (hr : Rd w a l) :
    Calls Tryd.prog 26 #[.slice a len cap] w fun e w' => e = .returned (.tuple #[.pointer none, .int .i64 20]) ∧ w = w' := by
  unfold maxLen at hcm
  unfold wrong at hw
  rw [hl] at hw
  by_cases h1 : len < 9
  · have d1 : decide ((len : Int) < 9) = true := decide_eq_true (by omega)
    clear hr hl hw
    go_enter Tryd.func26, Tryd.ntmps26
    go_wp2_with fail
    go_ret2
    exact ⟨rfl, rfl⟩
  · have d1 : decide ((len : Int) < 9) = false := decide_eq_false (by omega)
    by_cases h2 : 2097152 < len
    · have d2 : decide (2097152 < (len : Int)) = true := decide_eq_true (by omega)
      clear hr hl hw
      go_enter Tryd.func26, Tryd.ntmps26
      go_wp2_with fail
      go_ret2
      exact ⟨rfl, rfl⟩
    · have d2 : decide (2097152 < (len : Int)) = false := decide_eq_false (by omega)
      have hlt := u8_lt (l.getD 0 0)
      obtain ⟨bb, o, rfl, hcells⟩ := hr (by omega)
      have c0 := hcells 0 (by omega)
      rw [Nat.add_zero] at c0
      generalize (l.getD 0 0).toNat = X at *
      have CR : ∀ w, Calls Tryd.prog 31 #[.int .i64 (X : Int)] w fun e w' => e = .returned (.bool false) ∧ w = w' := fun w => by
        have h := right_c (X : Int) w (by omega) (by omega)
        rwa [show (decide (1 ≤ (X : Int)) && decide ((X : Int) ≤ 30)) = false by
          rw [Bool.and_eq_false_iff, decide_eq_false_iff_not, decide_eq_false_iff_not]
          omega] at h
      have CR := Lib.hid CR
      have hl1 : (0 : Int) < (len : Int) := by omega
      clear hr hl hcells hw
      go_enter Tryd.func26, Tryd.ntmps26
      go_wp2_with fail
      refine (CR.out _).mono ?_
      rintro e w1 ⟨rfl, rfl⟩
      go_wp2_with fail
      go_ret2
      exact ⟨rfl, rfl⟩
end Go.Proofs.YtbglicndccdaiaaDoor
