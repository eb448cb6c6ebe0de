/-
  Contracts of the document's filter of layer 4: Has, Add.
-/
import Derived.Test.YtbglicndccdaiaaDoorBlA
import Derived.Deep.RegionHeld3
import Derived.Deep.QuietTactic
import Derived.BigQuiet
namespace Go.Proofs.YtbglicndccdaiaaDoor
set_option linter.unusedVariables false
open Go.RowKit

def boolsV (on : List Bool) : Array Value := (on.map Value.bool).toArray
/-- THE DOCUMENT's FILTER: its block, that of its bits. -/
structure RFil (w : World) (b g : Nat) (on : List Bool) (p : Nat) : Prop where
  ob : At w b 39 #[.slice (some ⟨g, 0, none⟩) on.length on.length, .int .i64 (p : Int)]
  on : At w g 4 (boolsV on)
  ne : b ≠ g
theorem RFil.keep {w w' : World} {b g : Nat} {on : List Bool} {p : Nat} {T : Nat → Prop} (h : RFil w b g on p) (f : Fr T w w') (h1 : ¬ T b) (h2 : ¬ T g) : RFil w' b g on p := ⟨h.ob.keep f h1, h.on.keep f h2, h.ne⟩
theorem boolsV_at (on : List Bool) (i : Nat) (h : i < on.length) : (boolsV on)[i]? = some (.bool (on.getD i false)) := by
  simp [boolsV, List.getD, h]
theorem boolsV_set (on : List Bool) (i : Nat) (c : Bool) : (boolsV on).setIfInBounds i (.bool c) = boolsV (on.set i c) := by
  apply Array.ext'
  simp [boolsV, List.map_set]
def setAll (on : List Bool) (ps : List Nat) : List Bool := ps.foldl (fun o i => o.set i true) on
theorem setAll_length (ps : List Nat) : ∀ on : List Bool, (setAll on ps).length = on.length := by
  induction ps with
  | nil => intro on; rfl
  | cons i ps ih => intro on; exact (ih (on.set i true)).trans (by simp)
theorem setAll_snoc (on : List Bool) (ps : List Nat) (i : Nat) : setAll on (ps ++ [i]) = (setAll on ps).set i true := by simp [setAll]
def hasAll (on : List Bool) (ps : List Nat) : Bool := ps.all fun i => on.getD i false

theorem placesI_get (l : List UInt8) (m n i : Nat) (h : i < n) : (placesI l m n).getD i 0 = (((pA l + i * pD l) % m : Nat) : Int) := by
  unfold placesI
  simp only [List.getD_eq_getElem?_getD, List.getElem?_map, places_get l m n i h]
  rfl
set_option maxRecDepth 20000 in
set_option maxHeartbeats 1000000 in
theorem refHas_c (b g : Nat) (on : List Bool) (p : Nat) (a : Option Addr) (len cap : Nat) (l : List UInt8) (w : World) (hf : RFil w b g on p) (hl : l.length = len) (hlm : len ≤ 1000000) (hr : Rd w a l) (h0 : 0 < on.length) (h1 : on.length ≤ 1000000000) (hp : p ≤ 64) :
    Calls Tryd.prog 21 #[.pointer (some ⟨b, 0, none⟩), .slice a len cap] w fun e w' => e = .returned (.bool (hasAll on (places l on.length p))) ∧ Fr No w w' := by
  have CP := Lib.hid (fun w (hr : Rd w a l) => refPlaces_c a len cap l on.length p w hl hlm hr h0 h1 hp)
  have HR := Lib.hid (show Rd w.drew a l from hr)
  have HF := Lib.hid hf
  clear hr hl
  have HPL := Lib.hid (placesI_length l on.length p)
  have HPG := Lib.hid (placesI_get l on.length p)
  have HLT := Lib.hid (fun i => Nat.mod_lt (pA l + i * pD l) h0)
  have HALL := Lib.hid (show hasAll on (places l on.length p) = decide (∀ i, i < p → on.getD ((pA l + i * pD l) % on.length) false = true) by
    unfold hasAll places
    rw [List.all_map, Bool.eq_iff_iff]
    simp [List.all_eq_true])
  obtain ⟨N, hN⟩ : ∃ N, on.length = N := ⟨_, rfl⟩
  have hob := hf.ob
  rw [hN] at hob h0 h1
  have c0 := hob.cell 0
  have c1 := hob.cell 1
  simp at c0 c1
  have HN := Lib.hid hN
  clear hf hob
  go_enter Tryd.func21, Tryd.ntmps21
  go_wp2_with fail
  go_region_held3 (fun w' => w'.cell? ⟨b, 0, none⟩ = some (.slice (some ⟨g, 0, none⟩) N N) ∧ w'.cell? ⟨b, 1, none⟩ = some (.int .i64 (p : Int))) (first | assumption | go_keep)
    (first
      | (go_at_call 25; rw [← HN.out]; refine (CP.out _ HR.out).mono ?_; intro e w2 hret; obtain ⟨v, rfl, hrow, hf⟩ := hret; obtain ⟨sa, sc, rfl, _, _, hcells⟩ := hrow.form
         rw [HPL.out]
         have c0 := hf.cell (p := ⟨b, 0, none⟩) (v := .slice (some ⟨g, 0, none⟩) N N) c0 (fun h => h)
         have c1 := hf.cell (p := ⟨b, 1, none⟩) (v := .int .i64 (p : Int)) c1 (fun h => h)
         rw [HPL.out] at hcells
         have HC := Lib.hid hcells
         have HF2 := Lib.hid hf
         clear hrow hf hcells))
  go_wp2_with fail
  rename World => w2
  have HFw := Lib.hid ((Fr.refl No w).drew.trans HF2.out)
  have HFil := Lib.hid (HF.out.keep HFw.out (fun h => h) (fun h => h))
  go_loopw [6] (fun i wr => ∃ k : Nat, i = .int .i64 k ∧ k ≤ p ∧ Fr No w2 wr ∧ ∀ j, j < k → on.getD ((pA l + j * pD l) % on.length) false = true) (fun i _ => p - (intOf i).toNat)
  case atStart => exact ⟨0, rfl, Nat.zero_le _, Fr.refl _ _, fun j hj => absurd hj (by omega)⟩
  case round =>
    obtain ⟨k, rfl, hk, hfr, hall⟩ := hrel
    have HA := Lib.hid hall
    clear hall
    by_cases h1 : k < p
    · obtain ⟨sb, so, _, rfl, hc⟩ := HC.out (by omega)
      have ck := hfr.cell (hc k h1) (fun h => h)
      rw [HPG.out k h1] at ck
      have hlt := HLT.out k
      have fil := HFil.out.keep hfr (fun h => h) (fun h => h)
      have hob := fil.ob
      rw [HN.out] at hob
      have d0 := hob.cell 0
      simp at d0
      have hbit := fil.on.cell ((pA l + k * pD l) % on.length)
      rw [boolsV_at on _ hlt] at hbit
      rw [HN.out] at hlt
      have HA2 := HA.out
      have HALL2 := HALL.out
      rw [HN.out] at hbit ck HA2 HALL2
      obtain ⟨q, hq⟩ : ∃ q, (pA l + k * pD l) % N = q := ⟨_, rfl⟩
      rw [hq] at ck hbit hlt
      have HQ := Lib.hid hq
      have HFr := Lib.hid hfr
      clear hq fil hob hc hfr HA2 HALL2
      by_cases hb : on.getD q false = true
      · rw [hb] at hbit
        have HALLn : Hid (∀ j, j < k + 1 → on.getD ((pA l + j * pD l) % on.length) false = true) := Lib.hid fun j hj => by
          rcases Nat.lt_or_ge j k with h | h
          · exact HA.out j h
          · have : j = k := by omega
            subst this
            rw [HN.out, HQ.out]
            exact hb
        go_wp2_with fail
        go_quiet (fail)
        go_wp2_with fail
        go_roundw
        case rel => exact ⟨k + 1, by simp, by omega, HFr.out.drewN _, HALLn.out⟩
        case measure => simp [intOf]; omega
      · have hb' : on.getD q false = false := by simpa using hb
        rw [hb'] at hbit
        have HNO := Lib.hid (show hasAll on (places l on.length p) = false by
          rw [HALL.out, decide_eq_false_iff_not]
          intro h
          have := h k h1
          rw [HN.out, HQ.out] at this
          exact hb this)
        go_wp2_with fail
        go_quiet (fail)
        go_wp2_with fail
        go_ret
        exact ⟨congrArg (fun x => Ending.returned (Value.bool x)) HNO.out.symm, HFw.out.trans (HFr.out.drewN _)⟩
    · have hkp : k = p := by omega
      subst hkp
      have HNO := Lib.hid (show hasAll on (places l on.length k) = true by
        rw [HALL.out, decide_eq_true_eq]
        exact HA.out)
      have HFr := Lib.hid hfr
      clear hfr
      go_wp2_with fail
      go_ret
      exact ⟨congrArg (fun x => Ending.returned (Value.bool x)) HNO.out.symm, HFw.out.trans HFr.out⟩

theorem RFil.bit {w : World} {b g : Nat} {on : List Bool} {p : Nat} (h : RFil w b g on p) {i : Nat} (hi : i < on.length) : RFil (w.setCell ⟨g, i, none⟩ (.bool true)) b g (on.set i true) p :=
  ⟨by
    have := h.ob.keep ((Fr.refl (One g) w).setCell (p := ⟨g, i, none⟩) (fun _ => rfl) (.bool true)) (fun e => h.ne e)
    rwa [List.length_set], by
    have := h.on.set_ i (.bool true)
    rwa [boolsV_set] at this, h.ne⟩
set_option maxRecDepth 20000 in
set_option maxHeartbeats 1000000 in
theorem refAdd_c (b g : Nat) (on : List Bool) (p : Nat) (a : Option Addr) (len cap : Nat) (l : List UInt8) (w : World) (hf : RFil w b g on p) (hl : l.length = len) (hlm : len ≤ 1000000) (hr : Rd w a l) (h0 : 0 < on.length) (h1 : on.length ≤ 1000000000) (hp : p ≤ 64) :
    Calls Tryd.prog 15 #[.pointer (some ⟨b, 0, none⟩), .slice a len cap] w fun e w' => e = .returned (.tuple #[]) ∧ RFil w' b g (setAll on (places l on.length p)) p ∧ Fr (One g) w w' := by
  have CP := Lib.hid (fun w (hr : Rd w a l) => refPlaces_c a len cap l on.length p w hl hlm hr h0 h1 hp)
  have HR := Lib.hid (show Rd w.drew a l from hr)
  have HF := Lib.hid hf
  clear hr hl
  have HPL := Lib.hid (placesI_length l on.length p)
  have HPG := Lib.hid (placesI_get l on.length p)
  have HLT := Lib.hid (fun i => Nat.mod_lt (pA l + i * pD l) h0)
  have HPS := Lib.hid (places_succ l on.length)
  obtain ⟨N, hN⟩ : ∃ N, on.length = N := ⟨_, rfl⟩
  have hob := hf.ob
  rw [hN] at hob h0 h1
  have c0 := hob.cell 0
  have c1 := hob.cell 1
  simp at c0 c1
  have HN := Lib.hid hN
  have HGB := Lib.hid (show g < w.heap.size from hf.on.lt)
  clear hf hob
  go_enter Tryd.func15, Tryd.ntmps15
  go_wp2_with fail
  go_region_held3 (fun w' => w'.cell? ⟨b, 0, none⟩ = some (.slice (some ⟨g, 0, none⟩) N N) ∧ w'.cell? ⟨b, 1, none⟩ = some (.int .i64 (p : Int))) (first | assumption | go_keep)
    (first
      | (go_at_call 25; rw [← HN.out]; refine (CP.out _ HR.out).mono ?_; intro e w2 hret; obtain ⟨v, rfl, hrow, hf⟩ := hret; obtain ⟨sa, sc, rfl, _, _, hcells⟩ := hrow.form
         rw [HPL.out]
         have c0 := hf.cell (p := ⟨b, 0, none⟩) (v := .slice (some ⟨g, 0, none⟩) N N) c0 (fun h => h)
         have c1 := hf.cell (p := ⟨b, 1, none⟩) (v := .int .i64 (p : Int)) c1 (fun h => h)
         rw [HPL.out] at hcells
         have HC := Lib.hid hcells
         have HF2 := Lib.hid hf
         clear hrow hf hcells))
  go_wp2_with fail
  rename World => w2
  have HFw := Lib.hid ((Fr.refl No w).drew.trans HF2.out)
  have HFil := Lib.hid (HF.out.keep HFw.out (fun h => h) (fun h => h))
  go_loopw [5] (fun i wr => ∃ k : Nat, i = .int .i64 k ∧ k ≤ p ∧ Fr (One g) w2 wr ∧ RFil wr b g (setAll on (places l on.length k)) p) (fun i _ => p - (intOf i).toNat)
  case atStart => exact ⟨0, rfl, Nat.zero_le _, Fr.refl _ _, HFil.out⟩
  case round =>
    obtain ⟨k, rfl, hk, hfr, fil⟩ := hrel
    have hlk : (setAll on (places l on.length k)).length = on.length := setAll_length _ _
    by_cases h1 : k < p
    · obtain ⟨sb, so, hS, rfl, hc⟩ := HC.out (by omega)
      have hsg : ¬ sb = g := fun h3 => by
        have h2 := HGB.out
        rcases hS with hS | hS
        · exact hS
        · have h4 : w.drew.heap.size = w.heap.size := rfl
          omega
      have hbg : ¬ b = g := fil.ne
      have ck := hfr.cell (hc k h1) (fun h => hsg h)
      rw [HPG.out k h1] at ck
      have hlt := HLT.out k
      have hob := fil.ob
      rw [hlk, HN.out] at hob
      have d0 := hob.cell 0
      simp at d0
      have hbit := fil.on.cell ((pA l + k * pD l) % on.length)
      rw [boolsV_at _ _ (by rw [hlk]; exact hlt)] at hbit
      have hfz := fil.on.frozen ((pA l + k * pD l) % on.length)
      have hnew := fil.bit (i := (pA l + k * pD l) % on.length) (by rw [hlk]; exact hlt)
      rw [← setAll_snoc, ← HPS.out] at hnew
      have hfrn := hfr.setCell (p := ⟨g, (pA l + k * pD l) % on.length, none⟩) (fun _ => rfl) (.bool true)
      rw [HN.out] at hlt
      generalize (setAll on (places l on.length k)).getD ((pA l + k * pD l) % on.length) false = bb at hbit
      obtain ⟨q, hq⟩ : ∃ q, (pA l + k * pD l) % on.length = q := ⟨_, rfl⟩
      rw [hq] at ck hbit hfz hnew hfrn
      rw [HN.out] at hq
      rw [hq] at hlt
      have fst := (Fr.refl (One g) wr).setCell (p := ⟨g, q, none⟩) (fun _ => rfl) (.bool true)
      have HS1 := Lib.hid (fst.cell (p := ⟨b, 0, none⟩) d0 (fun h => hbg h))
      have HS2 := Lib.hid (fst.cell (p := ⟨sb, so + k, none⟩) ck (fun h => hsg h))
      clear fst
      have HNEW := Lib.hid hnew
      have HFr := Lib.hid hfrn
      clear hq fil hob hc hfr hnew hfrn hlk
      go_wp2_with fail
      go_region_held3 (fun w' => w'.cell? ⟨b, 0, none⟩ = some (.slice (some ⟨g, 0, none⟩) N N) ∧ w'.cell? ⟨sb, so + k, none⟩ = some (.int .i64 (q : Int))) (first | assumption | exact And.intro HS1.out HS2.out | go_keep) (fail)
      go_wp2_with fail
      go_roundw
      case rel => exact ⟨k + 1, by simp, by omega, HFr.out.drew, HNEW.out.keep ((Fr.refl No _).drew) (fun h => h) (fun h => h)⟩
      case measure => simp [intOf]; omega
    · have hkp : k = p := by omega
      subst hkp
      have HFr := Lib.hid hfr
      have HFi := Lib.hid fil
      clear hfr fil
      go_wp2_with fail
      go_end0
      exact ⟨rfl, HFi.out, (HFw.out.sub (fun _ _ h => h.elim)).trans HFr.out⟩
end Go.Proofs.YtbglicndccdaiaaDoor
