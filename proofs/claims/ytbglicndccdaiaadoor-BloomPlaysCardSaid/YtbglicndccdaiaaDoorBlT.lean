/-
  What the statements of layer 4 use besides: Copy, the bound on keys, their fixed answer.
-/
import Derived.Test.YtbglicndccdaiaaDoorBlS
import Derived.Test.YtbglicndccdaiaaDoorBlJ
import Derived.Test.YtbglicndccdaiaaDoorOpenT
import Derived.Lib.SlBytesConst
namespace Go.Proofs.YtbglicndccdaiaaDoor
set_option linter.unusedVariables false
open Go.RowKit

/-- A law's answer: true, and nothing of before has turned. -/
def Yes (w : World) (e : Ending) (w' : World) : Prop := e = .returned (.bool true) ∧ Fr No w w'
theorem Yes.post {w : World} {e : Ending} {w' : World} (h : Yes w e w') : e = .returned (.bool true) ∧ Below w.heap.size w w' := ⟨h.1, h.2.below (Nat.le_refl _) (fun _ h => h.elim)⟩
theorem Tab.keep {w w' : World} (h : Tab w) (f : Fr No w w') : Tab w' := fun i hi => f.cell (h i hi) (fun h => h)
theorem Fr.own {a b c : World} {g : Nat} (h : Fr No a b) (k : Fr (One g) b c) (hg : a.heap.size ≤ g) : Fr No a c := h.then_ k fun x hx e => by
  have : x = g := e
  omega
set_option maxHeartbeats 400000 in
theorem copyRef_c (a : Option Addr) (len cap : Nat) (l : List UInt8) (w : World) (hl : l.length = len) (hm : len ≤ 140737488355328) (hr : Rd w a l) :
    Calls Tryd.prog 13 #[.slice a len cap] w (NewRow l w) := by
  obtain ⟨v', W, hrun, hrow, hfr⟩ := (Row.nil w No).append a len cap l hl hr (by simp; omega)
  have HRUN := Lib.hid hrun
  have HN : Hid (NewRow l w (.returned v') W) := Lib.hid ⟨_, rfl, hrow, hfr⟩
  clear hrun hrow hfr hl hr
  go_enter Tryd.func13, Tryd.ntmps13
  go_wp2_with (at_builtin; refine wpList_append_run rfl _ _ 23 rfl rfl rfl HRUN.out ?_)
  go_ret
  exact HN.out

def smallK (l : List Tx) : Bool := l.all (fun x => decide (x.b.length ≤ 200)) && decide (l.length ≤ 60)
theorem smallK_no (l : List Tx) (i : Nat) (x : Tx) (h : l[i]? = some x) (hx : 200 < x.b.length) : smallK l = false := by
  unfold smallK
  rw [Bool.and_eq_false_iff]
  left
  rw [List.all_eq_false]
  exact ⟨x, List.mem_of_getElem? h, by simp; omega⟩
theorem smallK_all (l : List Tx) (h : ∀ (j : Nat) (x : Tx), j < l.length → l[j]? = some x → x.b.length ≤ 200) : smallK l = decide (l.length ≤ 60) := by
  unfold smallK
  have : l.all (fun x => decide (x.b.length ≤ 200)) = true := by
    rw [List.all_eq_true]
    intro x hx
    obtain ⟨i, hi, rfl⟩ := List.mem_iff_getElem.1 hx
    simpa using h i l[i] hi (List.getElem?_eq_getElem hi)
  rw [this, Bool.true_and]
theorem smallK_yes (l : List Tx) (h : smallK l = true) : l.length ≤ 60 ∧ ∀ (j : Nat) (x : Tx), l[j]? = some x → x.b.length ≤ 200 := by
  unfold smallK at h
  rw [Bool.and_eq_true, List.all_eq_true] at h
  refine ⟨by simpa using h.2, fun j x hx => by simpa using h.1 x (List.mem_of_getElem? hx)⟩
set_option maxRecDepth 20000 in
set_option maxHeartbeats 800000 in
theorem small_c (a : Option Addr) (cap : Nat) (l : List Tx) (w : World) (hm : l.length ≤ maxLen) (hi : Texts w a l) :
    Calls Tryd.prog 9 #[.slice a l.length cap] w fun e w' => e = .returned (.bool (smallK l)) ∧ w = w' := by
  unfold maxLen at hm
  obtain ⟨len, hlen⟩ : ∃ len, l.length = len := ⟨_, rfl⟩
  rw [hlen] at hm ⊢
  have HL := Lib.hid hlen
  have HI := Lib.hid hi
  clear hi hlen
  go_enter Tryd.func9, Tryd.ntmps9
  go_wp2_with fail
  go_loopw [7] (fun i wr => ∃ k : Nat, i = .int .i64 k ∧ k ≤ len ∧ wr = w ∧ ∀ (j : Nat) (x : Tx), j < k → l[j]? = some x → x.b.length ≤ 200) (fun i _ => len - (intOf i).toNat)
  case atStart => exact ⟨0, rfl, Nat.zero_le _, rfl, fun j x h => absurd h (by omega)⟩
  case round =>
    obtain ⟨k, rfl, hk, rfl, hall⟩ := hrel
    have HA := Lib.hid hall
    clear hall
    by_cases hlt : k < len
    · have hkl : k < l.length := by rw [HL.out]; exact hlt
      obtain ⟨b, o, rfl, hx⟩ := HI.out (by omega)
      have hx := hx k l[k] (List.getElem?_eq_getElem hkl)
      have HX : Hid (l[k]? = some l[k]) := Lib.hid (List.getElem?_eq_getElem hkl)
      generalize l[k] = x at hx HX
      obtain ⟨c0, h1, h2, _⟩ := hx
      unfold maxLen at h2
      by_cases h5 : 200 < x.b.length
      · have HN := Lib.hid (smallK_no l k x HX.out h5)
        generalize x.b.length = m at *
        go_wp2_with fail
        go_ret
        exact ⟨by rw [HN.out]; rfl, rfl⟩
      · have HA2 : Hid (∀ (j : Nat) (x : Tx), j < k + 1 → l[j]? = some x → x.b.length ≤ 200) := Lib.hid (fun j y hj hy => by
          rcases Nat.lt_or_ge j k with h | h
          · exact HA.out j y h hy
          · have : j = k := by omega
            subst this
            rw [HX.out] at hy
            cases hy
            omega)
        generalize x.b.length = m at *
        go_wp2_with fail
        go_roundw
        case rel => exact ⟨k + 1, by simp, by omega, by simp, HA2.out⟩
        case measure => simp [intOf]; omega
    · have hk' : k = len := by omega
      have HN := Lib.hid (smallK_all l fun j x hj hx => HA.out j x (by rw [hk', ← HL.out]; exact hj) hx)
      rw [HL.out] at HN
      have Hk := Lib.hid hk'
      clear hk'
      go_wp2_with fail
      go_ret
      refine ⟨?_, rfl⟩
      rw [HN.out]
      exact congrArg (fun b => Ending.returned (.bool b)) (decide_eq_decide.2 (by omega))
theorem In.new (w : World) (C : Array Value) (t : TypeId) (fr : Nat × Nat) (l : List UInt8) (hC : C = (l.map byt).toArray) : In (w.alloc (.cells C t fr)) (One w.heap.size) (some ⟨w.heap.size, 0, none⟩) l := fun hl => by
  subst hC
  refine ⟨_, _, rfl, rfl, fun i hi => ?_⟩
  rw [Nat.zero_add, cell_of_row _ _ i _ t fr (heap_alloc_new w _)]
  simp [List.getD, hi]
theorem places_ne (l : List UInt8) (m n : Nat) (hn : 0 < n) : places l m n ≠ [] := fun h => by
  have := places_length l m n
  rw [h] at this
  simp at this
  omega
theorem pos_put (bs : List UInt8) (ps : List Nat) (h : ∀ i ∈ ps, i < 8 * bs.length) (hne : ps ≠ []) : 0 < setN (putAll bs ps) := by
  cases ps with
  | nil => exact absurd rfl hne
  | cons i ps => exact setN_pos _ i (by rw [bitB_putAll _ bs i h]; simp)
theorem has_x (w : World) (b g : Nat) (bs : List UInt8) (h : Fil w b g bs 7) (hl : bs.length = 13) (ht : Tab w) :
    Calls Tryd.prog 20 #[.pointer (some ⟨b, 0, none⟩), .slice (some ⟨w.heap.size, 0, none⟩) 1 1] (w.alloc (.cells #[.int .u8 120] 5 (1, 2))) fun e w' => e = .returned (.bool (hasB bs (places [120] 104 7))) ∧ Fr No w w' := by
  have f := (Fr.refl No w).alloc (.cells #[.int .u8 120] 5 (1, 2))
  have h1 := has_c b g bs 7 (some ⟨w.heap.size, 0, none⟩) 1 1 [120] _ (h.keep f (fun h => h) (fun h => h)) rfl (by decide) (In.new w #[.int .u8 120] 5 (1, 2) [120] rfl).rd (ht.keep f) (by omega) (by omega) (by decide)
  rw [hl] at h1
  exact h1.mono fun e w' ⟨h2, h3⟩ => ⟨h2, f.trans h3⟩
theorem add_x (w : World) (b g : Nat) (bs : List UInt8) (h : Fil w b g bs 7) (hl : bs.length = 13) (ht : Tab w) :
    Calls Tryd.prog 14 #[.pointer (some ⟨b, 0, none⟩), .slice (some ⟨w.heap.size, 0, none⟩) 1 1] (w.alloc (.cells #[.int .u8 120] 5 (1, 2))) fun e w' => e = .returned (.tuple #[]) ∧ Fil w' b g (putAll bs (places [120] 104 7)) 7 ∧ Fr (One g) w w' := by
  have f := (Fr.refl No w).alloc (.cells #[.int .u8 120] 5 (1, 2))
  have h1 := add_c b g bs 7 (some ⟨w.heap.size, 0, none⟩) 1 1 [120] _ (h.keep f (fun h => h) (fun h => h)) rfl (by decide) (In.new w #[.int .u8 120] 5 (1, 2) [120] rfl).rd (ht.keep f) (by omega) (by omega) (by decide)
  rw [hl] at h1
  exact h1.mono fun e w' ⟨h2, h3, h4⟩ => ⟨h2, h3, (f.sub fun _ _ h => h.elim).trans h4⟩
set_option maxRecDepth 20000 in
set_option maxHeartbeats 1600000 in
theorem awake_c (w : World) (ht : Tab w) : Calls Tryd.prog 10 #[] w (Yes w) := by
  have CN := new_c 10 10 (by decide) (by decide) (by decide) w
  rw [show sizeB 10 10 = 13 by decide, show probF 10 = 7 by decide] at CN
  have CN : Calls Tryd.prog 11 #[.int .i64 10, .int .i64 10] w _ := CN
  have CN := Lib.hid CN
  have HT := Lib.hid ht
  have kc := fun (w : World) (C : Array Value) (n c : Nat) => Lib.run_convert_bytes_const (P := Tryd.prog) w 23 5 C n c Tryd.underlying23 Tryd.underlying5
  have HNO := Lib.hid (hasB_zero 13 (places [120] 104 7) (places_ne _ _ _ (by decide)))
  have hin : ∀ i ∈ places [120] 104 7, i < 8 * (List.replicate 13 (0 : UInt8)).length := places_lt [120] 104 7 (by decide)
  have HYES := Lib.hid (hasB_put (List.replicate 13 0) (places [120] 104 7) hin)
  have HPOS := Lib.hid (pos_put (List.replicate 13 0) (places [120] 104 7) hin (places_ne _ _ _ (by decide)))
  have HLE := setN_le (putAll (List.replicate 13 0) (places [120] 104 7))
  have HPL := Lib.hid (show (putAll (List.replicate 13 (0 : UInt8)) (places [120] 104 7)).length = 13 by rw [putAll_length]; rfl)
  rw [HPL.out] at HLE
  clear ht hin
  go_enter Tryd.func10, Tryd.ntmps10
  go_wp2_with fail
  refine (show Calls _ _ _ _ _ from CN.out).mono ?_
  rintro e w1 ⟨b, g, rfl, hfil, hf, hb, hg⟩
  have CB := Lib.hid (bits_c b g _ 7 w1 hfil (by decide))
  have CP := Lib.hid (probes_c b g _ 7 w1 hfil)
  have HFIL := Lib.hid hfil
  have HF := Lib.hid hf
  clear hfil hf CN
  go_wp2_with fail
  refine (show Calls _ _ _ _ _ from CB.out).mono ?_
  rintro e w2 ⟨rfl, rfl⟩
  rw [show ((8 * (List.replicate 13 (0 : UInt8)).length : Nat) : Int) = 104 by rfl]
  go_wp2_with fail
  refine (show Calls _ _ _ _ _ from CP.out).mono ?_
  rintro e w2 ⟨rfl, rfl⟩
  go_wp2_with fail
  have C1 := Lib.hid (has_x w1 b g _ HFIL.out rfl (HT.out.keep HF.out))
  refine (show Calls _ _ _ _ _ from C1.out).mono ?_
  rintro e w2 ⟨rfl, hf2⟩
  rw [HNO.out]
  have HF2 := Lib.hid (HF.out.trans hf2)
  have HFIL2 := Lib.hid (HFIL.out.keep hf2 (fun h => h) (fun h => h))
  clear hf2 C1 HFIL HF CB CP
  go_wp2_with fail
  have C2 := Lib.hid (add_x w2 b g _ HFIL2.out rfl (HT.out.keep HF2.out))
  refine (show Calls _ _ _ _ _ from C2.out).mono ?_
  rintro e w3 ⟨rfl, hfil3, hf3⟩
  have HF3 := Lib.hid (HF2.out.own hf3 hg)
  have HFIL3 := Lib.hid hfil3
  clear hf3 hfil3 C2 HF2 HFIL2
  go_wp2_with fail
  have C3 := Lib.hid (has_x w3 b g _ HFIL3.out HPL.out (HT.out.keep HF3.out))
  refine (show Calls _ _ _ _ _ from C3.out).mono ?_
  rintro e w4 ⟨rfl, hf4⟩
  rw [HYES.out]
  have HF4 := Lib.hid (HF3.out.trans hf4)
  have C4 := set_c b g _ 7 w4 (HFIL3.out.keep hf4 (fun h => h) (fun h => h)) (by rw [HPL.out]; decide)
  have hpos := HPOS.out
  clear hf4 C3 HF3 HFIL3 HNO HYES HPL HPOS
  generalize setN (putAll (List.replicate 13 (0 : UInt8)) (places [120] 104 7)) = n at *
  have C4 := Lib.hid C4
  go_wp2_with fail
  refine (show Calls _ _ _ _ _ from C4.out).mono ?_
  rintro e w5 ⟨rfl, rfl⟩
  have d1 : decide ((0 : Int) < (n : Int)) = true := decide_eq_true (by omega)
  go_wp2_with fail
  go_ret
  exact ⟨rfl, HF4.out⟩
end Go.Proofs.YtbglicndccdaiaaDoor
