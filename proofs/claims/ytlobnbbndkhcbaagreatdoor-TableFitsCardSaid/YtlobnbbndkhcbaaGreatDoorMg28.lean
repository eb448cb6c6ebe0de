/-
  Texts of layer 13 and of what it stands on, one behind the other.
-/
import Derived.Test.YtlobnbbndkhcbaaGreatDoorMg24
import Derived.Test.YtlobnbbndkhcbaaGreatDoorMg09
import Derived.Laws.Append
import Derived.PlainAid
import Derived.Test.YtlobnbbndkhcbaaGreatDoorMg21
import Derived.Test.YtlobnbbndkhcbaaGreatDoorMg27
import Derived.Test.YtlobnbbndkhcbaaGreatDoorMg22

/- Layer 4: contracts of slices.Clone, Grow and Concat at bytes; of a filter's Bytes and Parse. -/
namespace Go.Proofs.YtlobnbbndkhcbaaGreatDoor
set_option linter.unusedVariables false
set_option linter.unusedSimpArgs false
open Go.RowKit

theorem gr_ltB {w wr : World} : ∀ k, Gr No w wr k → k < wr.heap.size := fun k hk => by
  rcases hk with hk | hk
  · exact hk.elim
  · exact hk.2
theorem row_empty (w : World) : Row (w.alloc (.cells #[] 5)) (Gr No w (w.alloc (.cells #[] 5))) (.slice (some ⟨w.heap.size, 0, none⟩) 0 0) [] :=
  ⟨⟨rfl, .inr ⟨w.heap.size, 0, #[], rfl, Nat.zero_le _, heap_alloc_new w _, Nat.le_refl _, by simp [maxLen], rfl, rfl⟩⟩, fun k hk => by
    have : w.heap.size = k := Option.some.inj hk
    subst this
    exact .inr ⟨Nat.le_refl _, by simp⟩⟩
set_option maxRecDepth 20000 in
set_option maxHeartbeats 800000 in
theorem cloneB_c (b o len cap : Nat) (l : List UInt8) (w : World) (hl : l.length = len) (hlm : len ≤ 1000000000) (hr : Rd w (some ⟨b, o, none⟩) l) :
    Calls Tryz.prog 118 #[.slice (some ⟨b, o, none⟩) len cap] w (NewRow l w) := by
  have R0 := row_empty w
  have f0 := (Fr.refl No w).alloc (.cells #[] 5)
  obtain ⟨v1, w1, hrun, hrow, hfr⟩ := R0.append (some ⟨b, o, none⟩) len cap l hl (hr.keep f0) (by simp; omega)
  rw [List.nil_append] at hrow
  have HRUN := Lib.hid hrun
  have HN : Hid (NewRow l w (.returned v1) w1) := Lib.hid ⟨v1, rfl, hrow.join f0.size hfr.size, f0.then_ hfr fun k hk h => Gr.old hk h⟩
  clear R0 f0 hrun hrow hfr hr hl
  have he : ∀ w : World, (binOp .eql 27 (.slice (some ⟨b, o, none⟩) len cap) (.slice none 0 0)).run Tryz.prog w = .ok (.bool false) w := fun _ => rfl
  go_enter Tryz.func118, Tryz.ntmps118
  go_wp2_with (at_builtin; refine wpList_append_run rfl _ _ 27 rfl rfl rfl HRUN.out ?_)
  go_ret
  exact HN.out

set_option maxHeartbeats 2000000 in
set_option maxRecDepth 100000 in
theorem grow_c (n : Nat) (h1 : 1 ≤ n) (hn : n ≤ 100000000000000) (w : World) :
    Calls Tryz.prog 107 #[.slice none 0 0, .int .i64 (n : Int)] w (NewRow [] w) := by
  obtain ⟨i0, hi, hz0, hz1, hz2⟩ := info_parts infoU8
  have hold : (Builtin.firstCells i0.size 0 (.slice none 0 0)).run Tryz.prog w.drew = .ok (#[] : Array Value) w.drew := run_firstCells_none w.drew i0.size 0 0 0
  have hrz : ∀ ty, (Builtin.append_ #[27, 3] ty #[.slice none 0 0, .int .i64 (n : Int)]).run Tryz.prog w =
      .ok (.slice (some ⟨w.heap.size, 0, none⟩) n (grownCap w n 0 5)) (w.drew.alloc (.cells ((#[] : Array Value) ++ Builtin.zeroCells (Value.int .u8 0).cells n ++ Builtin.zeroCells (Value.int .u8 0).cells (grownCap w n 0 5 - n)) 5)) := fun ty => by
    have h := Lib.run_append_grow_zeros w 27 3 ty 5 i0 (.int .u8 0) .i64 .i64 Tryz.underlying27 Tryz.underlying3 hi hz0 none 0 0 [] hold n (by omega) (by omega) (by omega) (by omega)
      (by rw [hz2]; omega)
      (by rw [hz2, Nat.zero_add]; exact growslice_fits (by omega) (by omega))
    rw [Nat.zero_add] at h
    exact h
  have hGn : n ≤ grownCap w n 0 5 := grownCap_ge w _ _ _
  have hG63 : grownCap w n 0 5 ≤ maxLen := grownCap_le_maxLen w n 0 5 (by unfold maxLen; omega)
  obtain ⟨G, hG⟩ : ∃ G, G = grownCap w n 0 5 := ⟨_, rfl⟩
  rw [← hG] at hrz hGn hG63
  have HN : Hid (NewRow [] w (.returned (.slice (some ⟨w.heap.size, 0, none⟩) 0 G)) (w.alloc (.cells (Builtin.zeroCells #[.int .u8 0] n ++ Builtin.zeroCells #[.int .u8 0] (G - n)) 5)).drew) := Lib.hid
    ⟨_, rfl, ⟨⟨rfl, .inr ⟨w.heap.size, G, Builtin.zeroCells #[.int .u8 0] n ++ Builtin.zeroCells #[.int .u8 0] (G - n), rfl, Nat.zero_le _, heap_alloc_new w _, Nat.zero_le _, hG63, by
      rw [Array.size_append, size_zeroCells, size_zeroCells]
      simp
      omega, by simp⟩⟩, fun k hk => by
        have : w.heap.size = k := Option.some.inj hk
        subst this
        exact .inr ⟨Nat.le_refl _, by show w.heap.size < (w.alloc _).heap.size; simp⟩⟩, ((Fr.refl No w).alloc _).drew⟩
  unfold maxLen at hG63
  clear hold hG hi hz0 hz1 hz2
  go_enter Tryz.func107, Tryz.ntmps107
  go_wp2_with (at_builtin; refine Lib.wpList_append_run _ rfl _ _ _ _ rfl _ _ rfl rfl _ _ (hrz _) ?_)
  all_goals (go_ret; exact HN.out)
/-- What stands ahead of part k of two. -/
def front (x y : List UInt8) : Nat → List UInt8
  | 0 => []
  | 1 => x
  | _ => x ++ y
theorem front_length (x y : List UInt8) (k : Nat) (hx : x.length ≤ 1) (hy : y.length ≤ 1000000) : (front x y k).length ≤ 1000001 := by
  rcases k with _ | _ | k <;> simp [front] <;> omega
set_option maxHeartbeats 2000000 in
set_option maxRecDepth 100000 in
theorem concat_c (S : Nat) (a1 a2 : Option Addr) (c1 n c2 : Nat) (x : UInt8) (bs : List UInt8) (w : World) (h1 : w.cell? ⟨S, 0, none⟩ = some (.slice a1 1 c1)) (h2 : w.cell? ⟨S, 1, none⟩ = some (.slice a2 n c2)) (r1 : Rd w a1 [x]) (r2 : Rd w a2 bs) (hn : bs.length = n) (hn2 : n ≤ 1000000) :
    Calls Tryz.prog 72 #[.slice (some ⟨S, 0, none⟩) 2 2] w (NewRow (x :: bs) w) := by
  have CG := Lib.hid (grow_c (1 + n) (by omega) (by omega))
  have HR1 := Lib.hid r1
  have HR2 := Lib.hid r2
  have HN := Lib.hid hn
  have H1 := Lib.hid h1
  have H2 := Lib.hid h2
  clear r1 r2 hn
  go_enter Tryz.func72, Tryz.ntmps72
  go_wp2_with fail
  go_loopw [3, 11] (fun z i wr => ∃ k : Nat, i = .int .i64 k ∧ k ≤ 2 ∧ z = .int .i64 ((if k = 0 then 0 else if k = 1 then 1 else 1 + n : Nat) : Int) ∧ wr = w) (fun _ i _ => 2 - (intOf i).toNat)
  case atStart => exact ⟨0, rfl, by omega, rfl, rfl⟩
  case round =>
    obtain ⟨k, rfl, hk, rfl, rfl⟩ := hrel
    rcases (show k = 0 ∨ k = 1 ∨ k = 2 by omega) with rfl | rfl | rfl
    · go_wp2_with fail
      go_roundw
      case rel => exact ⟨1, by simp, by omega, by simp, by simp⟩
      case measure => simp [intOf]
    · go_wp2_with fail
      go_roundw
      case rel => exact ⟨2, by simp, by omega, by simp, by simp⟩
      case measure => simp [intOf]
    · have e2 : ((if (2 : Nat) = 0 then 0 else if (2 : Nat) = 1 then 1 else 1 + n : Nat) : Int) = ((1 + n : Nat) : Int) := by simp
      rw [e2]
      clear e2
      obtain ⟨M, hM⟩ : ∃ M, 1 + n = M := ⟨_, rfl⟩
      rw [hM] at CG ⊢
      have hM2 : M ≤ 1000001 := by omega
      clear hM
      go_wp2_with fail
      refine (show Calls _ _ _ _ _ from CG.out _).mono ?_
      rintro e w1 ⟨v, rfl, hrow, hfr⟩
      have HROW := Lib.hid hrow
      have HFR := Lib.hid hfr
      have g1 := hfr.cell h1 (fun h => h)
      have g2 := hfr.cell h2 (fun h => h)
      clear hrow hfr h1 h2 CG
      go_wp2_with fail
      go_loopw [6, 27] (fun v i wr' => ∃ k : Nat, i = .int .i64 k ∧ k ≤ 2 ∧ Row wr' (Gr No wr wr') v (front [x] bs k) ∧ Fr No wr wr') (fun _ i _ => 2 - (intOf i).toNat)
      case atStart => exact ⟨0, rfl, by omega, HROW.out, HFR.out⟩
      case round =>
        obtain ⟨k, rfl, hk, hrow, hfr⟩ := hrel
        have q1 := hfr.cell H1.out (fun h => h)
        have q2 := hfr.cell H2.out (fun h => h)
        have hfl := front_length [x] bs k (by simp) (by rw [HN.out]; exact hn2)
        rcases (show k = 0 ∨ k = 1 ∨ k = 2 by omega) with rfl | rfl | rfl
        · obtain ⟨v1, w2, hrun, hrow1, hfr1⟩ := hrow.append a1 1 c1 [x] rfl (HR1.out.keep hfr) (by omega)
          have HRUN := Lib.hid hrun
          have HW := Lib.hid (hrow1.join hfr.size hfr1.size)
          have HF := Lib.hid (hfr.then_ hfr1 fun k hk h => Gr.old hk h)
          clear hrow hfr hrun hrow1 hfr1 hfl
          go_wp2_with (at_builtin; refine wpList_append_run rfl _ _ 27 rfl rfl rfl HRUN.out ?_)
          go_roundw
          case rel => exact ⟨1, by simp, by omega, HW.out, HF.out⟩
          case measure => simp [intOf]
        · obtain ⟨v1, w2, hrun, hrow1, hfr1⟩ := hrow.append a2 n c2 bs HN.out (HR2.out.keep hfr) (by omega)
          have HRUN := Lib.hid hrun
          have HW := Lib.hid (hrow1.join hfr.size hfr1.size)
          have HF := Lib.hid (hfr.then_ hfr1 fun k hk h => Gr.old hk h)
          clear hrow hfr hrun hrow1 hfr1 hfl
          go_wp2_with (at_builtin; refine wpList_append_run rfl _ _ 27 rfl rfl rfl HRUN.out ?_)
          go_roundw
          case rel => exact ⟨2, by simp, by omega, HW.out, HF.out⟩
          case measure => simp [intOf]
        · have HW := Lib.hid hrow
          have HF := Lib.hid hfr
          clear hrow hfr hfl
          go_wp2_with fail
          go_ret
          exact ⟨_, rfl, HW.out, HF.out⟩
end Go.Proofs.YtlobnbbndkhcbaaGreatDoor

/- Layer 4: contracts of a filter's Bytes and of Parse. -/
namespace Go.Proofs.YtlobnbbndkhcbaaGreatDoor
set_option linter.unusedVariables false
set_option linter.unusedSimpArgs false
open Go.RowKit

theorem sizeU8B (w : World) : (sizeOf 5).run Tryz.prog w = .ok 1 w := size_one cellsU8 (by
  obtain ⟨i0, hi, _, hz1, _⟩ := info_parts infoU8
  exact ⟨i0, hi, hz1⟩) w
set_option maxRecDepth 20000 in
set_option maxHeartbeats 2000000 in
set_option maxRecDepth 20000 in
set_option maxHeartbeats 1000000 in
theorem fbytes_c (b g : Nat) (bs : List UInt8) (p : Nat) (w : World) (hf : Fil w b g bs p) (hp : p ≤ 64) (hn : bs.length ≤ 1000000) :
    Calls Tryz.prog 71 #[.pointer (some ⟨b, 0, none⟩)] w (NewRow (UInt8.ofNat p :: bs) w) := by
  obtain ⟨c, c0, c1, hc1, hc2, hrd⟩ := hf.cells
  obtain ⟨N, hN⟩ : ∃ N, bs.length = N := ⟨_, rfl⟩
  rw [hN] at c1 hc1 hn
  have fa := (Fr.refl No w).alloc (.cells #[.int .u8 (p : Int)] 5)
  have fb := fa.alloc (.cells #[.slice (some ⟨w.heap.size, 0, none⟩) 1 1, .slice (some ⟨g, 0, none⟩) N c] 27)
  have A1 := (At.new' w 5 #[.int .u8 (p : Int)] rfl).alloc (.cells #[.slice (some ⟨w.heap.size, 0, none⟩) 1 1, .slice (some ⟨g, 0, none⟩) N c] 27)
  have A2 := At.new' (w.alloc (.cells #[.int .u8 (p : Int)] 5)) 27 #[.slice (some ⟨w.heap.size, 0, none⟩) 1 1, .slice (some ⟨g, 0, none⟩) N c] (g := w.heap.size + 1) (by simp)
  have R1 : Rd _ (some ⟨w.heap.size, 0, none⟩) [UInt8.ofNat p] := fun _ => ⟨_, _, rfl, fun i hi => by
    have h : i = 0 := by simpa using hi
    subst h
    have := (A1.keep ((Fr.refl No _).drew) (fun h => h)).cell 0
    simp only [Nat.zero_add, List.getD_cons_zero]
    rw [toNat_of p (by omega)]
    exact this⟩
  have CC := Lib.hid (concat_c (w.heap.size + 1) (some ⟨w.heap.size, 0, none⟩) (some ⟨g, 0, none⟩) 1 N c (UInt8.ofNat p) bs _ ((A2.keep ((Fr.refl No _).drew) (fun h => h)).cell 0) ((A2.keep ((Fr.refl No _).drew) (fun h => h)).cell 1) R1 (hrd.keep fb.drew) hN (by omega))
  have HFB := Lib.hid fb.drew
  clear fa fb A1 A2 R1 hrd hf
  have hwp : IntKind.u8.wrap (p : Int) = (p : Int) := by
    rw [IntKind.wrap_u8]
    omega
  go_enter Tryz.func71, Tryz.ntmps71
  go_wp2_with fail
  go_region_held3 (fun w' => w'.cell? ⟨b, 0, none⟩ = some (.int .i64 (p : Int)) ∧ w'.cell? ⟨b, 1, none⟩ = some (.slice (some ⟨g, 0, none⟩) N c)) (first | assumption | go_keep)
    (first
      | (go_at_call 72; refine (show Calls _ _ _ _ _ from CC.out).mono ?_; rintro e w2 ⟨v, rfl, hrow, hfr⟩
         have c0 := hfr.cell (HFB.out.cell c0 (fun h => h)) (fun h => h)
         have c1 := hfr.cell (HFB.out.cell c1 (fun h => h)) (fun h => h)
         have HW := Lib.hid hrow
         have HF := Lib.hid hfr
         clear hrow hfr))
  go_wp2_with fail
  go_ret
  exact ⟨_, rfl, HW.out.sub (fun k _ hk => hk.elim .inl fun h => .inr ⟨Nat.le_trans HFB.out.size h.1, h.2⟩), HFB.out.trans HF.out⟩
/-- What is read is a filter of its own. -/
theorem fil_of_row {w w1 : World} {v : Value} {bs : List UInt8} (p : Nat) (hrow : Row w1 (Gr No w w1) v bs) (h0 : 0 < bs.length) : ∃ g c, v = .slice (some ⟨g, 0, none⟩) bs.length c ∧ w.heap.size ≤ g ∧
    Fil (w1.alloc (.cells #[.int .i64 (p : Int), .slice (some ⟨g, 0, none⟩) bs.length c] 144)) w1.heap.size g bs p := by
  obtain ⟨g, c, hv, hS, _, hc, _⟩ := hrow.at_ (i := 0) h0
  have hg := (hrow.block (k := g) (by rw [hv]; rfl)).2
  refine ⟨g, c, hv, hS.elim (fun h => h.elim) (fun h => h.1), ⟨⟨c, At.new' w1 _ _ rfl, ?_, hc⟩, by omega⟩⟩
  rw [← hv]
  exact (show Row w1 (One g) v bs from ⟨hrow.1, fun k hk => by rw [hv] at hk; exact (Option.some.inj hk).symm⟩).keep ((Fr.refl No w1).alloc _) (fun _ _ h => h)
set_option maxRecDepth 20000 in
set_option maxHeartbeats 1000000 in
theorem bparse_c (a : Option Addr) (len cap : Nat) (x : UInt8) (bs : List UInt8) (w : World) (hl : (x :: bs).length = len) (hc : len ≤ cap) (hcm : cap ≤ maxLen) (h9 : 9 ≤ len) (h2 : len ≤ 2097152) (hx1 : 1 ≤ x.toNat) (hx2 : x.toNat ≤ 30) (hr : Rd w a (x :: bs)) :
    Calls Tryz.prog 83 #[.slice a len cap] w fun e w' =>
      ∃ b g, e = .returned (.tuple #[.pointer (some ⟨b, 0, none⟩), .int .i64 0]) ∧ Fil w' b g bs x.toNat ∧ Fr No w w' ∧ w.heap.size ≤ b ∧ w.heap.size ≤ g := by
  unfold maxLen at hcm
  have hdrop := hr.drop 1 cap (by rw [hl]; exact hc)
  rw [List.drop_one, List.tail_cons] at hdrop
  obtain ⟨bb, o, rfl, hcells⟩ := hr (by simp)
  have c0 : w.cell? ⟨bb, o, none⟩ = some (.int .u8 (x.toNat : Int)) := by
    have := hcells 0 (by simp)
    simpa using this
  have hbl : bs.length = len - 1 := by simp at hl; omega
  have ecut : cutAt (some ⟨bb, o, none⟩) 1 cap = some ⟨bb, o + 1, none⟩ := by
    unfold cutAt
    rw [if_neg (by omega)]
    simp [Addr.add]
  rw [ecut] at hdrop
  have CC := Lib.hid (cloneB_c bb (o + 1) (len - 1) (cap - 1) bs w.drew hbl (by omega) (hdrop.keep ((Fr.refl No w).drew)))
  have K : ∀ w, (Instr.slice 27 (.slice (some ⟨bb, o, none⟩) len cap) (some (.int .i64 1)) none none).run Tryz.prog w = .ok (.slice (some ⟨bb, o + 1, none⟩) (len - 1) (cap - 1)) w := fun w => by
    have h := cut_lo (P := Tryz.prog) (t := 27) (e := 5) Tryz.underlying27 sizeU8B (some ⟨bb, o, none⟩) len cap 1 (by omega) w
    rw [ecut] at h
    exact h
  have CR : ∀ w, Calls Tryz.prog 117 #[.int .i64 (x.toNat : Int)] w fun e w' => e = .returned (.bool true) ∧ w = w' := fun w => by
    have h := rightP_c (x.toNat : Int) w (by omega) (by omega)
    rwa [decide_eq_true (by omega), decide_eq_true (by omega)] at h
  have CR := Lib.hid CR
  have hbl0 : 0 < bs.length := by omega
  have HBL := Lib.hid hbl
  have hl1 : (0 : Int) < (len : Int) := by omega
  have hl2 : 0 < len := by omega
  have d1 : decide ((len : Int) < 9) = false := decide_eq_false (by omega)
  have d2 : decide (2097152 < (len : Int)) = false := decide_eq_false (by omega)
  generalize x.toNat = X at *
  have hwx : IntKind.i64.wrap (X : Int) = (X : Int) := by
    rw [PlainAid.i64_is]
    unfold wrap64
    omega
  clear hr hl hcells hdrop hbl ecut
  go_enter Tryz.func83, Tryz.ntmps83
  go_wp2_with fail
  refine (CR.out _).mono ?_
  rintro e w1 ⟨rfl, rfl⟩
  go_wp2_with fail
  go_region_held3 (fun w' => w'.cell? ⟨bb, o, none⟩ = some (.int .u8 (X : Int))) (first | assumption | go_keep)
    (first
      | (go_at_call 118; refine (show Calls _ _ _ _ _ from CC.out).mono ?_; rintro e w2 ⟨v, rfl, hrow, hfr⟩
         have c0 := hfr.cell (((Fr.refl No w).drew).cell c0 (fun h => h)) (fun h => h)
         obtain ⟨g, c, hv, hg, hfil⟩ := fil_of_row X hrow hbl0
         subst hv
         rw [HBL.out]
         rw [HBL.out] at hfil
         have HFIL := Lib.hid hfil
         have HF := Lib.hid hfr
         clear hrow hfr hfil))
  all_goals
    go_wp2_with fail
    go_ret2
    have f := ((Fr.refl No w).drew).trans HF.out
    exact ⟨_, g, rfl, HFIL.out, f.alloc _, f.size, hg⟩
/-- What is no filter's is refused. -/
def wrong (l : List UInt8) : Prop := l.length < 9 ∨ 2097152 < l.length ∨ (l.getD 0 0).toNat < 1 ∨ 30 < (l.getD 0 0).toNat
set_option maxHeartbeats 800000 in
theorem parse_no (a : Option Addr) (len cap : Nat) (l : List UInt8) (w : World) (hl : l.length = len) (hc : len ≤ cap) (hcm : cap ≤ maxLen) (hw : wrong l) (hr : Rd w a l) :
    Calls Tryz.prog 83 #[.slice a len cap] w fun e w' => e = .returned (.tuple #[.pointer none, .int .i64 20]) ∧ w = w' := by
  unfold maxLen at hcm
  unfold wrong at hw
  rw [hl] at hw
  by_cases h1 : len < 9
  · have d1 : decide ((len : Int) < 9) = true := decide_eq_true (by omega)
    clear hr hl hw
    go_enter Tryz.func83, Tryz.ntmps83
    go_wp2_with fail
    go_ret2
    exact ⟨rfl, rfl⟩
  · have d1 : decide ((len : Int) < 9) = false := decide_eq_false (by omega)
    by_cases h2 : 2097152 < len
    · have d2 : decide (2097152 < (len : Int)) = true := decide_eq_true (by omega)
      clear hr hl hw
      go_enter Tryz.func83, Tryz.ntmps83
      go_wp2_with fail
      go_ret2
      exact ⟨rfl, rfl⟩
    · have d2 : decide (2097152 < (len : Int)) = false := decide_eq_false (by omega)
      have hlt := u8_lt (l.getD 0 0)
      obtain ⟨bb, o, rfl, hcells⟩ := hr (by omega)
      have c0 := hcells 0 (by omega)
      rw [Nat.add_zero] at c0
      generalize (l.getD 0 0).toNat = X at *
      have CR : ∀ w, Calls Tryz.prog 117 #[.int .i64 (X : Int)] w fun e w' => e = .returned (.bool false) ∧ w = w' := fun w => by
        have h := rightP_c (X : Int) w (by omega) (by omega)
        rwa [show (decide (1 ≤ (X : Int)) && decide ((X : Int) ≤ 30)) = false by
          rw [Bool.and_eq_false_iff, decide_eq_false_iff_not, decide_eq_false_iff_not]
          omega] at h
      have CR := Lib.hid CR
      have hl1 : (0 : Int) < (len : Int) := by omega
      clear hr hl hcells hw
      go_enter Tryz.func83, Tryz.ntmps83
      go_wp2_with fail
      refine (CR.out _).mono ?_
      rintro e w1 ⟨rfl, rfl⟩
      go_wp2_with fail
      go_ret2
      exact ⟨rfl, rfl⟩
end Go.Proofs.YtlobnbbndkhcbaaGreatDoor

/- Layer 13, the program's own: filterOf. -/
namespace Go.Proofs.YtlobnbbndkhcbaaGreatDoor
set_option linter.unusedVariables false
open Go.RowKit

/-- The filter's bytes with the first entries in it. -/
def filK (l : List Ent) (n k : Nat) : List UInt8 := (l.take k).foldl (fun b x => putAll b (places (bs x.u) (8 * b.length) (probF n))) (List.replicate ((max (l.length * n) 64 + 7) / 8) 0)
theorem filK_zero (l : List Ent) (n : Nat) : filK l n 0 = List.replicate (sizeB l.length n) 0 := rfl
theorem filK_all (l : List Ent) (n : Nat) : filK l n l.length = filBs l n := by unfold filK filBs; rw [List.take_length]
theorem filK_step (l : List Ent) (n k : Nat) (h : k < l.length) : filK l n (k + 1) = putAll (filK l n k) (places (bs (l.getD k ent0).u) (8 * (filK l n k).length) (probF n)) := by
  unfold filK
  rw [take_ent l k h, List.foldl_append]
  rfl
theorem filK_len (l : List Ent) (n : Nat) : ∀ k, k ≤ l.length → (filK l n k).length = sizeB l.length n
  | 0, _ => by rw [filK_zero, List.length_replicate]
  | k + 1, h => by rw [filK_step l n k (by omega), putAll_length, filK_len l n k (by omega)]
theorem probF_le (n : Nat) (h : n ≤ 32) : probF n ≤ 22 := by unfold probF; omega
def FilRet (l : List Ent) (n : Nat) (w : World) (e : Ending) (w' : World) : Prop :=
  ∃ b g, e = .returned (.pointer (some ⟨b, 0, none⟩)) ∧ Fil w' b g (filBs l n) (probF n) ∧ Fr No w w' ∧ w.heap.size ≤ b ∧ w.heap.size ≤ g
set_option maxRecDepth 20000 in
set_option maxHeartbeats 2000000 in
theorem filterOf_c (w : World) (S : Nat → Prop) (a : Option Addr) (m cap : Nat) (l : List Ent) (n : Nat) (ht : Tab w) (hm' : l.length = m) (h6 : m ≤ 65536) (hn1 : 1 ≤ n) (hn2 : n ≤ 32) (hp : Ents w S a l) (hu : ∀ x ∈ l, x.u.size ≤ 1000) :
    Calls Tryz.prog 38 #[.slice a m cap, .int .i64 (n : Int)] w (FilRet l n w) := by
  have HN := Lib.hid (fun w => new_c m n h6 hn1 hn2 w)
  have HP := Lib.hid hp
  have HT := Lib.hid ht
  have HM := Lib.hid hm'
  have HZ : Hid (List.replicate (sizeB m n) 0 = filK l n 0) := Lib.hid (by rw [filK_zero, hm'])
  have HST : Hid (∀ k, k < m → filK l n (k + 1) = putAll (filK l n k) (places (bs (l.getD k ent0).u) (8 * (filK l n k).length) (probF n)) ∧ (l.getD k ent0).u.size ≤ 1000) := Lib.hid fun k hk => ⟨filK_step l n k (by omega), hu _ (getD_memE l k (by omega))⟩
  have HLE : Hid (∀ k, k ≤ m → 0 < (filK l n k).length ∧ (filK l n k).length ≤ 100000000) := Lib.hid fun k hk => by
    rw [filK_len l n k (by omega), hm']
    have : m * n ≤ 65536 * 32 := Nat.mul_le_mul h6 hn2
    unfold sizeB
    omega
  have HAL : Hid (filK l n m = filBs l n) := Lib.hid (by rw [← hm']; exact filK_all l n)
  have HPR := Lib.hid (probF_le n hn2)
  clear hp ht hm' hu
  have HPF : Hid (∃ P, probF n = P) := Lib.hid ⟨_, rfl⟩
  obtain ⟨P, hPF⟩ := HPF.out
  rw [hPF] at HN HST HPR
  have HPF := Lib.hid hPF
  clear hPF
  go_enter Tryz.func38, Tryz.ntmps38
  go_wp2_with fail
  refine (show Calls _ _ _ _ _ from HN.out w).mono ?_
  rintro e1 w1 ⟨b, g, rfl, hf, f1, z1, z2⟩
  rw [HZ.out] at hf
  have HF0 := Lib.hid hf
  have F0 := Lib.hid f1
  clear hf f1 HN
  go_wp2_with fail
  go_loopw [18] (fun i wr => ∃ k : Nat, i = .int .i64 k ∧ k ≤ m ∧ Fil wr b g (filK l n k) P ∧ Fr No w wr) (fun i _ => m - (intOf i).toNat)
  case atStart => exact ⟨0, rfl, Nat.zero_le _, HF0.out, F0.out⟩
  case round =>
    obtain ⟨k, rfl, hk, hf, hfr⟩ := hrel
    have HF := Lib.hid hf
    have HFR := Lib.hid hfr
    by_cases hlt : k < m
    · obtain ⟨bb, o, hb, rfl, hx⟩ := HP.out (by rw [HM.out]; omega)
      have hx := (hx k (by rw [HM.out]; exact hlt)).keep hfr (fun h => h)
      obtain ⟨hst, hus⟩ := HST.out k hlt
      obtain ⟨hl0, hl1⟩ := HLE.out k hk
      obtain ⟨x, hxe⟩ : ∃ x, l.getD k ent0 = x := ⟨_, rfl⟩
      rw [hxe] at hx hst hus
      obtain ⟨c0, c1, c2, c3⟩ := hx
      have HSTE := Lib.hid hst
      obtain ⟨W2, hW2⟩ : ∃ W2, wr.alloc (.cells #[.string x.u, .int .i64 x.q, .int .i64 x.k, .string x.val] 49) = W2 := ⟨_, rfl⟩
      have f2 : Fr No wr W2 := by rw [← hW2]; exact (Fr.refl No wr).alloc _
      have a2 : At W2 wr.heap.size 49 #[.string x.u, .int .i64 x.q, .int .i64 x.k, .string x.val] := by rw [← hW2]; exact At.new _ _ _
      obtain ⟨ua, uc, W3, hcv, _, _, hin, f3⟩ := conv_strR W2 x.u (by unfold maxLen; omega)
      have q0 := a2.cell 0
      simp at q0
      have HA := Lib.hid (add_c b g (filK l n k) P ua x.u.size uc (bs x.u) W3 ((HF.out.keep f2 (fun h => h) (fun h => h)).keep f3 (fun h => h) (fun h => h)) (bs_length _) (by omega) hin.rd ((HT.out.keep hfr (fun h => h)).keep (f2.trans f3) (fun h => h)) hl0 hl1 (by have := HPR.out; omega))
      rw [← hst] at HA
      have HF3 := Lib.hid (HFR.out.trans (f2.trans f3))
      have HW2 := Lib.hid hW2
      rw [← hW2] at q0 hcv
      clear hf hfr hst hxe f2 a2 hin f3 hW2
      go_wp2_with fail
      refine (show Calls _ _ _ _ _ from HA.out).mono ?_
      rintro e5 W5 ⟨rfl, hf5, f5⟩
      have HF5 := Lib.hid hf5
      have HFR5 := Lib.hid (HF3.out.then_ f5 (fun q hq h => by have h : q = g := h; omega))
      clear hf5 f5 HA
      go_wp2_with fail
      go_roundw
      case rel => exact ⟨k + 1, by simp, by omega, HF5.out, HFR5.out⟩
      case measure => simp [intOf]; omega
    · have hkm : k = m := by omega
      subst hkm
      rw [HAL.out] at HF
      clear hf hfr
      go_wp2_with fail
      go_ret
      rw [← HPF.out] at HF
      exact ⟨b, g, rfl, HF.out, HFR.out, z1, z2⟩
end Go.Proofs.YtlobnbbndkhcbaaGreatDoor

/- Layer 13, the program's own: bitsOf. -/
namespace Go.Proofs.YtlobnbbndkhcbaaGreatDoor
set_option linter.unusedVariables false
open Go.RowKit

def bitG (m fl p : Nat) : Nat → Nat → Nat
  | 0, _ => 0
  | f + 1, n => if sizeB m n = fl ∧ probF n = p then n else bitG m fl p f (n + 1)
/-- A number of bits with which a filter of so many keys may be made. -/
def bitsN (m fl p : Nat) : Nat := bitG m fl p 32 1
theorem bitG_is (m fl p : Nat) : ∀ f n, 1 ≤ n → (bitG m fl p f n = 0 ∧ ∀ k, n ≤ k → k < n + f → ¬ (sizeB m k = fl ∧ probF k = p)) ∨ (n ≤ bitG m fl p f n ∧ bitG m fl p f n < n + f ∧ sizeB m (bitG m fl p f n) = fl ∧ probF (bitG m fl p f n) = p)
  | 0, n, h => .inl ⟨rfl, fun k h1 h2 => by omega⟩
  | f + 1, n, h => by
    by_cases hc : sizeB m n = fl ∧ probF n = p
    · have e : bitG m fl p (f + 1) n = n := by show (if _ then _ else _) = _; rw [if_pos hc]
      rw [e]
      exact .inr ⟨Nat.le_refl _, by omega, hc⟩
    · have e : bitG m fl p (f + 1) n = bitG m fl p f (n + 1) := by show (if _ then _ else _) = _; rw [if_neg hc]
      rw [e]
      rcases bitG_is m fl p f (n + 1) (by omega) with ⟨h1, h2⟩ | ⟨h1, h2, h3⟩
      · refine .inl ⟨h1, fun k h3 h4 => ?_⟩
        by_cases hk : k = n
        · rw [hk]; exact hc
        · exact h2 k (by omega) (by omega)
      · exact .inr ⟨by omega, by omega, h3⟩
theorem bitsN_is (m n : Nat) (h1 : 1 ≤ n) (h2 : n ≤ 32) : 1 ≤ bitsN m (sizeB m n) (probF n) ∧ bitsN m (sizeB m n) (probF n) ≤ 32 ∧ sizeB m (bitsN m (sizeB m n) (probF n)) = sizeB m n ∧ probF (bitsN m (sizeB m n) (probF n)) = probF n := by
  unfold bitsN
  rcases bitG_is m (sizeB m n) (probF n) 32 1 (Nat.le_refl _) with ⟨_, h⟩ | ⟨h3, h4, h5⟩
  · exact absurd ⟨rfl, rfl⟩ (h n h1 (by omega))
  · exact ⟨h3, by omega, h5⟩
theorem bitsN_le (m fl p : Nat) : bitsN m fl p ≤ 32 := by
  unfold bitsN
  rcases bitG_is m fl p 32 1 (Nat.le_refl _) with ⟨h, _⟩ | ⟨_, h, _⟩ <;> omega
set_option maxRecDepth 20000 in
set_option maxHeartbeats 2000000 in
theorem bitsOf_c (w : World) (b g : Nat) (fb : List UInt8) (p m : Nat) (hf : Fil w b g fb p) (hl : fb.length ≤ 1000000000) (hm : m ≤ 65536) :
    Calls Tryz.prog 84 #[.pointer (some ⟨b, 0, none⟩), .int .i64 (m : Int)] w (PlainRet (.int .i64 (bitsN m fb.length p : Int)) w) := by
  have HF := Lib.hid hf
  have HL := Lib.hid hl
  have H0 : Hid (bitsN m fb.length p = bitG m fb.length p (33 - 1) 1) := Lib.hid rfl
  have HS : Hid (∀ k, k ≤ 32 → (sizeB m k = fb.length ∧ probF k = p → bitG m fb.length p (33 - k) k = k) ∧ (¬ (sizeB m k = fb.length ∧ probF k = p) → bitG m fb.length p (33 - k) k = bitG m fb.length p (33 - (k + 1)) (k + 1))) := Lib.hid fun k hk => by
    rw [show 33 - k = (33 - (k + 1)) + 1 by omega]
    exact ⟨fun h => by show (if _ then _ else _) = _; rw [if_pos h], fun h => by show (if _ then _ else _) = _; rw [if_neg h]⟩
  have HE : Hid (bitG m fb.length p (33 - 33) 33 = 0) := Lib.hid rfl
  have HSB : Hid (∀ k, k ≤ 32 → sizeB m k ≤ 1000000) := Lib.hid fun k hk => by
    have : m * k ≤ 65536 * 32 := Nat.mul_le_mul hm hk
    unfold sizeB
    omega
  clear hf hl
  generalize bitsN m fb.length p = R at *
  obtain ⟨fl, hfl⟩ : ∃ fl, fb.length = fl := ⟨_, rfl⟩
  rw [hfl] at H0 HS HE HL
  have HFL := Lib.hid hfl
  clear hfl
  go_enter Tryz.func84, Tryz.ntmps84
  go_wp2_with fail
  go_loopw [5] (fun i wr => ∃ k : Nat, i = .int .i64 k ∧ 1 ≤ k ∧ k ≤ 33 ∧ R = bitG m fl p (33 - k) k ∧ Fr No w wr) (fun i _ => 33 - (intOf i).toNat)
  case atStart => exact ⟨1, rfl, Nat.le_refl _, by omega, H0.out, Fr.refl _ _⟩
  case round =>
    obtain ⟨k, rfl, hk1, hk2, hr, hfr⟩ := hrel
    have HR := Lib.hid hr
    have HFR := Lib.hid hfr
    clear hr
    by_cases hlt : k ≤ 32
    · have CN := Lib.hid (new_c m k hm hk1 hlt wr)
      obtain ⟨hs1, hs2⟩ := HS.out k hlt
      have hsb := HSB.out k hlt
      obtain ⟨sz, hsz⟩ : ∃ sz, sizeB m k = sz := ⟨_, rfl⟩
      obtain ⟨pr, hpr⟩ : ∃ pr, probF k = pr := ⟨_, rfl⟩
      rw [hsz, hpr] at CN hs1 hs2
      rw [hsz] at hsb
      have CB := Lib.hid (fun w' (f : Fr No w w') => bits_c b g fb p w' (HF.out.keep f (fun h => h) (fun h => h)) (by rw [HFL.out]; exact HL.out))
      have CP := Lib.hid (fun w' (f : Fr No w w') => probes_c b g fb p w' (HF.out.keep f (fun h => h) (fun h => h)))
      rw [HFL.out] at CB
      have H1 := Lib.hid hs1
      have H2 := Lib.hid hs2
      clear hs1 hs2 hsz hpr hfr
      go_wp2_with fail
      refine (show Calls _ _ _ _ _ from CN.out).mono ?_
      rintro e1 w1 ⟨b1, g1, rfl, hf1, f1, _, _⟩
      have F1 := Lib.hid (HFR.out.trans f1)
      have CB1 := bits_c b1 g1 (List.replicate sz 0) pr w1 hf1 (by rw [List.length_replicate]; omega)
      have CP1 := Lib.hid (probes_c b1 g1 (List.replicate sz 0) pr w1 hf1)
      rw [List.length_replicate] at CB1
      have CB1 := Lib.hid CB1
      clear hf1 f1 CN
      go_wp2_with fail
      refine (show Calls _ _ _ _ _ from CB1.out).mono ?_
      rintro e2 w2 ⟨rfl, rfl⟩
      go_wp2_with fail
      refine (CB.out w1 F1.out).mono ?_
      rintro e3 w3 ⟨rfl, rfl⟩
      by_cases hse : sz = fl
      · have d1 : (((8 * sz : Nat) : Int) == ((8 * fl : Nat) : Int)) = true := by rw [beq_iff_eq]; omega
        have d1b : ((8 * (sz : Int)) == (8 * (fl : Int))) = true := by rw [beq_iff_eq]; omega
        go_wp2_with fail
        refine (show Calls _ _ _ _ _ from CP1.out).mono ?_
        rintro e4 w4 ⟨rfl, rfl⟩
        go_wp2_with fail
        refine (CP.out w1 F1.out).mono ?_
        rintro e5 w5 ⟨rfl, rfl⟩
        by_cases hpe : pr = p
        · have d2 : ((pr : Int) == (p : Int)) = true := by rw [beq_iff_eq]; omega
          have HEQ := Lib.hid (H1.out ⟨hse, hpe⟩)
          clear hse hpe
          go_wp2_with fail
          go_ret
          exact ⟨by rw [HR.out, HEQ.out]; rfl, F1.out⟩
        · have d2 : ((pr : Int) == (p : Int)) = false := by rw [beq_eq_false_iff_ne]; omega
          have HEQ := Lib.hid (H2.out fun h => hpe h.2)
          clear hse hpe
          go_wp2_with fail
          go_roundw
          case rel => exact ⟨k + 1, by simp, by omega, by omega, by rw [HR.out, HEQ.out], F1.out⟩
          case measure => simp [intOf]; omega
      · have d1 : (((8 * sz : Nat) : Int) == ((8 * fl : Nat) : Int)) = false := by rw [beq_eq_false_iff_ne]; omega
        have d1b : ((8 * (sz : Int)) == (8 * (fl : Int))) = false := by rw [beq_eq_false_iff_ne]; omega
        have HEQ := Lib.hid (H2.out fun h => hse h.1)
        clear hse
        go_wp2_with fail
        go_roundw
        case rel => exact ⟨k + 1, by simp, by omega, by omega, by rw [HR.out, HEQ.out], F1.out⟩
        case measure => simp [intOf]; omega
    · have hk3 : k = 33 := by omega
      subst hk3
      rw [HE.out] at HR
      go_wp2_with fail
      go_ret
      exact ⟨by rw [HR.out]; rfl, HFR.out⟩
end Go.Proofs.YtlobnbbndkhcbaaGreatDoor
