/-
  Texts of layer 14 and of what it stands on, one behind the other.
-/
import Derived.Test.YtihahckjcedceaaDoorMg32
import Derived.Test.YtihahckjcedceaaDoorMg17
import Derived.Test.YtihahckjcedceaaDoorMg24
import Derived.Test.YtihahckjcedceaaDoorMg18
import Derived.Test.YtihahckjcedceaaDoorMg21
import Derived.Test.YtihahckjcedceaaDoorMg27
import Derived.Test.YtihahckjcedceaaDoorMg19
import Derived.Deep.RegionHeld3
import Derived.OwnWalk

/- Layer 9: a log in memory; New, last, Room, Grow, Append. -/
namespace Go.Proofs.YtihahckjcedceaaDoor
set_option linter.unusedVariables false
open Go.RowKit

abbrev wf64 (x : Int) : Prop := (Lit.int .i64 x).wf = true
theorem wf_small {x : Int} (h1 : -9223372036854775808 ≤ x) (h2 : x ≤ 9223372036854775807) : wf64 x := by
  simp [wf64, Lit.wf, IntKind.min, IntKind.max, IntKind.signed, IntKind.bits]
  omega
theorem wf_out {x : Int} (h : wf64 x) : -9223372036854775808 ≤ x ∧ x ≤ 9223372036854775807 := by
  simp [wf64, Lit.wf, IntKind.min, IntKind.max, IntKind.signed, IntKind.bits] at h
  omega
/-- A LOG at block g over device d: its zones zs, in a row of their own. -/
structure LgAt (w : World) (g d : Nat) (v : Value) (zs : List Int) : Prop where
  hd : At w g 88 #[.pointer (some ⟨d, 0, none⟩), v]
  row : RowI w (Own1 v) v zs
  ne : v.ownBlock ≠ some g
/-- The log with its device: all their blocks are of L. -/
structure Ld (L : Nat → Prop) (w : World) (g d : Nat) (F : Nat → Prop) (m : Dev) (v : Value) (zs : List Int) : Prop where
  lg : LgAt w g d v zs
  dz : Dz w d F m
  gF : ¬ F g
  vF : ∀ k, v.ownBlock = some k → ¬ F k
  gL : L g
  vL : ∀ k, v.ownBlock = some k → L k
  FL : ∀ k, F k → L k
  low : ∀ k, L k → k < w.heap.size
theorem LgAt.keep {w w' : World} {g d : Nat} {v : Value} {zs : List Int} {T : Nat → Prop} (h : LgAt w g d v zs) (f : Fr T w w') (hg : ¬ T g) (hv : ∀ k, v.ownBlock = some k → ¬ T k) : LgAt w' g d v zs :=
  ⟨h.hd.keep f hg, h.row.keep f hv, h.ne⟩
theorem Ld.keep {L : Nat → Prop} {w w' : World} {g d : Nat} {F T : Nat → Prop} {m : Dev} {v : Value} {zs : List Int} (h : Ld L w g d F m v zs) (f : Fr T w w') (hT : ∀ k, L k → ¬ T k) : Ld L w' g d F m v zs :=
  ⟨h.lg.keep f (hT _ h.gL) (fun k hk => hT k (h.vL k hk)), h.dz.keep f (fun k hk => hT k (h.FL k hk)), h.gF, h.vF, h.gL, h.vL, h.FL, fun k hk => Nat.lt_of_lt_of_le (h.low k hk) f.size⟩
theorem Ld.sub {L L' : Nat → Prop} {w : World} {g d : Nat} {F : Nat → Prop} {m : Dev} {v : Value} {zs : List Int} (h : Ld L w g d F m v zs) (hs : ∀ k, L k → L' k) (hl : ∀ k, L' k → k < w.heap.size) : Ld L' w g d F m v zs :=
  ⟨h.lg, h.dz, h.gF, h.vF, hs _ h.gL, fun k hk => hs k (h.vL k hk), fun k hk => hs k (h.FL k hk), hl⟩
/-- .. behind a call that left it alone. -/
theorem Ld.on {L : Nat → Prop} {w w' : World} {g d : Nat} {F : Nat → Prop} {m : Dev} {v : Value} {zs : List Int} (h : Ld L w g d F m v zs) (f : Fr No w w') : Ld (Gr L w w') w' g d F m v zs :=
  (h.keep f (fun _ _ h => h)).sub (fun k hk => .inl hk) fun k hk => hk.elim (fun hk => Nat.lt_of_lt_of_le (h.low k hk) f.size) fun hk => hk.2
theorem Ld.cells {L : Nat → Prop} {w : World} {g d : Nat} {F : Nat → Prop} {m : Dev} {v : Value} {zs : List Int} (h : Ld L w g d F m v zs) :
    w.cell? ⟨g, 0, none⟩ = some (.pointer (some ⟨d, 0, none⟩)) ∧ w.cell? ⟨g, 1, none⟩ = some v := ⟨h.lg.hd.cell 0, h.lg.hd.cell 1⟩
/-- Behind a call that turned the device: its new blocks. -/
theorem Ld.move {L : Nat → Prop} {w w' : World} {g d : Nat} {F : Nat → Prop} {m m' : Dev} {v u : Value} {zs : List Int} {e : Ending} (h : Ld L w g d F m v zs) (hm : MovD d F m' u w e w') :
    e = .returned u ∧ (∃ F', Ld (Gr L w w') w' g d F' m' v zs) ∧ Fr L w w' := by
  obtain ⟨rfl, F', hd, hF, f⟩ := hm
  have hlg := h.lg.keep f h.gF h.vF
  refine ⟨rfl, ⟨F', hlg, hd, fun hg => (hF g hg).elim h.gF fun hh => ?_, fun k hk hf => (hF k hf).elim (h.vF k hk) fun hh => ?_, .inl h.gL, fun k hk => .inl (h.vL k hk), fun k hk => (hF k hk).elim (fun hk => .inl (h.FL k hk)) fun hh => .inr hh, fun k hk => hk.elim (fun hk => Nat.lt_of_lt_of_le (h.low k hk) f.size) fun hk => hk.2⟩, f.sub fun k _ hk => h.FL k hk⟩
  · have := h.lg.hd.lt
    omega
  · have := (h.lg.row.1.lt k hk).2
    omega
/-- The last zone; how much room it has. -/
def lastZ (zs : List Int) : Int := zs.getD (zs.length - 1) 0
def roomL (m : Dev) (zs : List Int) : Int := if zs = [] then 0 else roomM m (lastZ zs)
section
variable {L : Nat → Prop} {w : World} {g d : Nat} {F : Nat → Prop} {m : Dev} {v : Value} {zs : List Int}
set_option maxRecDepth 20000 in
set_option maxHeartbeats 800000 in
theorem last_c (h : LgAt w g d v zs) (hz : zs ≠ []) (hn : zs.length ≤ 1000000) : Calls Tryd.prog 49 #[.pointer (some ⟨g, 0, none⟩)] w fun e w' => e = .returned (.int .i64 (lastZ zs)) ∧ ∃ n, w' = w.drewN n := by
  have c1 := h.hd.cell 1
  obtain ⟨a, cap, rfl, h1, h2, hin⟩ := h.row.nums
  obtain ⟨n, hn1⟩ : ∃ n, zs.length = n + 1 := ⟨zs.length - 1, by have := List.length_pos_iff.2 hz; omega⟩
  obtain ⟨b, o, rfl, hc⟩ := hin (by omega)
  have ck := hc n (by omega)
  have HZ : Hid (lastZ zs = zs.getD n 0) := Lib.hid (by unfold lastZ; rw [hn1]; rfl)
  rw [hn1] at c1 h1 hn
  have e1 : ((n + 1 : Nat) : Int) - 1 = (n : Int) := by omega
  have g0 : (0 : Int) ≤ (n : Int) := by omega
  have g1 : (n : Int) < ((n + 1 : Nat) : Int) := by omega
  obtain ⟨x, hx⟩ : ∃ x, zs.getD n 0 = x := ⟨_, rfl⟩
  rw [hx] at ck HZ
  obtain ⟨k, hk⟩ : ∃ k, n + 1 = k := ⟨_, rfl⟩
  rw [hk] at c1 h1 hn e1 g1
  clear h hin hc hx hn1 hk
  go_enter Tryd.func49, Tryd.ntmps49
  go_wp2_with fail
  go_quiet (fail)
  go_wp2_with fail
  go_ret
  exact ⟨by rw [HZ.out]; rfl, _, rfl⟩
theorem last_q (h : LgAt w g d v zs) (hz : zs ≠ []) (hn : zs.length ≤ 1000000) (n : Nat) : Calls Tryd.prog 49 #[.pointer (some ⟨g, 0, none⟩)] (w.drewN n) fun e w' => e = .returned (.int .i64 (lastZ zs)) ∧ ∃ m, w' = w.drewN m :=
  Calls.quiet_of (last_c (h.keep ((Fr.refl No w).drewN n) (fun h => h) (fun _ _ h => h)) hz hn)
set_option maxRecDepth 20000 in
set_option maxHeartbeats 800000 in
theorem lroom_d (h : Ld L w g d F m v zs) (hw : WF m) (hn : zs.length ≤ 1000000) : Calls Tryd.prog 24 #[.pointer (some ⟨g, 0, none⟩)] w fun e w' => e = .returned (.int .i64 (roomL m zs)) ∧ ∃ n, w' = w.drewN n := by
  obtain ⟨c0, c1⟩ := h.cells
  obtain ⟨a, cap, rfl, h1, h2, _⟩ := h.lg.row.nums
  by_cases hz : zs = []
  · subst hz
    have HR : Hid (roomL m [] = 0) := Lib.hid (by unfold roomL; rw [if_pos rfl])
    generalize roomL m [] = R at *
    simp only [List.length_nil] at c1 h1
    clear h
    go_enter Tryd.func24, Tryd.ntmps24
    go_wp2_with fail
    go_ret
    exact ⟨by rw [HR.out]; rfl, 0, rfl⟩
  · have HR : Hid (roomL m zs = roomM m (lastZ zs)) := Lib.hid (by unfold roomL; rw [if_neg hz])
    have CL := Lib.hid (fun n => last_q h.lg hz hn n)
    have CR := Lib.hid (fun z n => room_q h.dz hw z n)
    obtain ⟨n, hn1⟩ : ∃ n, zs.length = n := ⟨_, rfl⟩
    have hpos := List.length_pos_iff.2 hz
    rw [hn1] at c1 h1 hn hpos
    have e1 : ((n : Int) == 0) = false := by rw [beq_eq_false_iff_ne]; omega
    generalize roomL m zs = R at *
    generalize lastZ zs = L at *
    clear h hz hn1
    go_enter Tryd.func24, Tryd.ntmps24
    go_wp2_with fail
    go_quiet (first | exact CL.out _ | exact CR.out _ _)
    go_wp2_with fail
    go_ret
    exact ⟨by rw [HR.out]; rfl, _, rfl⟩
theorem lroom_c (h : Ld L w g d F m v zs) (hw : WF m) (hn : zs.length ≤ 1000000) : Calls Tryd.prog 24 #[.pointer (some ⟨g, 0, none⟩)] w (Ask (.int .i64 (roomL m zs)) w) :=
  (lroom_d h hw hn).mono fun e w' ⟨h1, n, h2⟩ => ⟨h1, by rw [h2]; exact (Fr.refl No w).drewN n⟩
/-- A log over a device, made anew. -/
theorem lnew_c (hd : Dz w d F m) (hL : ∀ k, F k → L k) (hlow : ∀ k, L k → k < w.heap.size) (a : Option Addr) (n cap : Nat) (zs : List Int) (hl : zs.length = n) (hn : n ≤ 1000000) (hr : Nums w a zs) :
    Calls Tryd.prog 17 #[.pointer (some ⟨d, 0, none⟩), .slice a n cap] w fun e w' => ∃ g v, e = .returned (.pointer (some ⟨g, 0, none⟩)) ∧ Ld (Gr L w w') w' g d F m v zs ∧ Fr No w w' := by
  have C := Lib.hid (cloneInts_c (cap := cap) hl hn hr)
  have HD := Lib.hid hd
  clear hr hd
  go_enter Tryd.func17, Tryd.ntmps17
  go_wp2_with fail
  refine (show Calls _ _ _ _ _ from C.out).mono ?_
  rintro e w1 ⟨v, rfl, hrow, hf⟩
  obtain ⟨va, vc, rfl, v1, v2, _⟩ := hrow.nums
  have f2 := (Fr.refl No w1).alloc (.cells #[.pointer (some ⟨d, 0, none⟩), .slice va zs.length vc] 88)
  have hd2 := (HD.out.keep hf (fun _ _ h => h)).keep f2 (fun _ _ h => h)
  have hown : ∀ k, (Value.slice va zs.length vc).ownBlock = some k → w.heap.size ≤ k ∧ k < w1.heap.size := fun k hk => (hrow.2 k hk).elim (fun h => h.elim) fun h => h
  have H1 : Hid (Ld (Gr L w (w1.alloc (.cells #[.pointer (some ⟨d, 0, none⟩), .slice va zs.length vc] 88))) (w1.alloc (.cells #[.pointer (some ⟨d, 0, none⟩), .slice va zs.length vc] 88)) w1.heap.size d F m (.slice va zs.length vc) zs) := Lib.hid
    ⟨⟨At.new _ _ _, (hrow.own).keep f2 (fun _ _ h => h), fun e => by have := (hown _ e).2; omega⟩, hd2, fun hk => by have := HD.out.1 _ hk; have := hf.size; omega, fun k hk hF => by have := HD.out.1 _ hF; have := (hown k hk).1; omega, .inr ⟨hf.size, by simp⟩, fun k hk => .inr ⟨(hown k hk).1, Nat.lt_of_lt_of_le (hown k hk).2 f2.size⟩, fun k hk => .inl (hL k hk),
      fun k hk => hk.elim (fun hk => Nat.lt_of_lt_of_le (hlow k hk) (Nat.le_trans hf.size f2.size)) fun hk => hk.2⟩
  have H2 := Lib.hid (hf.trans f2)
  clear hrow hf f2 hd2 hown HD
  rw [hl] at H1 H2 v1 ⊢
  go_wp2_with fail
  go_ret
  exact ⟨w1.heap.size, _, rfl, H1.out, H2.out⟩
end
end Go.Proofs.YtihahckjcedceaaDoor

namespace Go.Proofs.YtihahckjcedceaaDoor
set_option linter.unusedVariables false
open Go.RowKit

theorem infoGeo : (Tryd.prog.info? 84).map (·.size) = some 3 := by kernel_rfl
theorem geo_results (tmps : Array Value) (w : World) (g : Nat) (t : TypeId) (x y z : Value) (hp : tmps.getD 2 undef = .pointer (some ⟨g, 0, none⟩)) (hg : At w g t #[x, y, z]) :
    (results Tryd.f59 tmps).run Tryd.prog w = .ok (.agg #[x, y, z]) w := by
  have hp' : tmps[2]?.getD undef = .pointer (some ⟨g, 0, none⟩) := by simpa using hp
  have hl := run_loadVar_row (P := Tryd.prog) w g t 84 #[x, y, z] (0, 0) _ hg Tryd.underlying84 rfl infoGeo
  simp [results, Tryd.results59, hp', asAddr, hl]
set_option maxRecDepth 20000 in
set_option maxHeartbeats 800000 in
theorem geometry_c {w : World} {d : Nat} {F : Nat → Prop} {m : Dev} (h : Dz w d F m) : Calls Tryd.prog 59 #[.pointer (some ⟨d, 0, none⟩)] w (Ask (.agg #[.int .i64 (m.zs.length : Int), .int .i64 (m.size : Int), .int .i64 (m.opn : Int)]) w) := by
  obtain ⟨_, zb, xs, ar, lf, h1, _, _, _⟩ := h
  have hdl := h1.hd.lt
  have k1 := h1.hd.keep ((Fr.refl No w).alloc (.cells #[.int .i64 0, .int .i64 0, .int .i64 0] 84)) (fun h => h)
  have c0 := k1.cell 0
  have c1 := k1.cell 1
  have c2 := k1.cell 2
  have A1 := At.new w 84 #[.int .i64 0, .int .i64 0, .int .i64 0]
  have hf0 := (Fr.refl No w).alloc (.cells #[.int .i64 0, .int .i64 0, .int .i64 0] 84)
  clear h1 k1
  generalize m.zs.length = n at *
  generalize m.size = s at *
  generalize m.opn = o at *
  have b0 := A1.cell 0
  have b1 := A1.cell 1
  have b2 := A1.cell 2
  have q0 := A1.frozen 0
  have q1 := A1.frozen 1
  have q2 := A1.frozen 2
  simp at c0 c1 c2 b0 b1 b2
  have Z1 := Lib.hid (At.new w 84 #[.int .i64 (n : Int), .int .i64 (s : Int), .int .i64 (o : Int)])
  have Z2 := Lib.hid ((Fr.refl No w).alloc (.cells #[.int .i64 (n : Int), .int .i64 (s : Int), .int .i64 (o : Int)] 84))
  clear A1 hf0
  go_enter Tryd.func59, Tryd.ntmps59
  go_wp2_with fail
  all_goals refine bodyPost_ret (geo_results _ _ w.heap.size 84 _ _ _ rfl Z1.out) rfl ?_
  exact ⟨rfl, Z2.out⟩
set_option maxRecDepth 20000 in
set_option maxHeartbeats 800000 in
theorem index_c (a : Option Addr) (n cap : Nat) (zs : List Int) (z : Int) (w : World) (hl : zs.length = n) (hn : n ≤ 1000000) (hr : Nums w a zs) :
    Calls Tryd.prog 70 #[.slice a n cap, .int .i64 z] w fun e w' => ∃ r : Int, e = .returned (.int .i64 r) ∧ decide (0 ≤ r) = decide (z ∈ zs) ∧ w = w' := by
  have HN := Lib.hid hl
  have HR := Lib.hid hr
  clear hl hr
  go_enter Tryd.func70, Tryd.ntmps70
  go_wp2_with fail
  go_loopw [8] (fun i wr => ∃ j : Nat, i = .int .i64 j ∧ j ≤ n ∧ wr = w ∧ ∀ t, t < j → zs.getD t 0 ≠ z) (fun i _ => n - (intOf i).toNat)
  case atStart => exact ⟨0, rfl, Nat.zero_le _, rfl, fun t h => absurd h (Nat.not_lt_zero t)⟩
  case round =>
    obtain ⟨j, rfl, hj, rfl, hall⟩ := hrel
    have HA := Lib.hid hall
    clear hall
    by_cases h1 : j < n
    · have d1 : decide ((j : Int) < (n : Int)) = true := by rw [decide_eq_true_eq]; omega
      obtain ⟨b, o, rfl, hc⟩ := HR.out (by rw [HN.out]; omega)
      have ck := hc j (by rw [HN.out]; exact h1)
      obtain ⟨x, hx⟩ : ∃ x, zs.getD j 0 = x := ⟨_, rfl⟩
      rw [hx] at ck
      have HX := Lib.hid hx
      clear hc hx
      by_cases h2 : z = x
      · have e1 : (z == x) = true := by rw [h2]; exact beq_self_eq_true x
        have hmem : Hid (decide ((0 : Int) ≤ (j : Int)) = decide (z ∈ zs)) := Lib.hid (by
          rw [decide_eq_true (by omega : (0 : Int) ≤ (j : Int)), eq_comm, decide_eq_true_eq, h2, ← HX.out]
          have hlt : j < zs.length := by rw [HN.out]; exact h1
          rw [List.getD_eq_getElem?_getD, List.getElem?_eq_getElem hlt]
          exact List.getElem_mem hlt)
        clear h2
        go_wp2_with fail
        go_ret
        exact ⟨j, rfl, hmem.out, rfl⟩
      · have e1 : (z == x) = false := by rw [beq_eq_false_iff_ne]; exact h2
        have HA2 : Hid (∀ t, t < j + 1 → zs.getD t 0 ≠ z) := Lib.hid fun t ht => by
          rcases Nat.lt_or_ge t j with h | h
          · exact HA.out t h
          · obtain rfl : t = j := by omega
            rw [HX.out]
            exact fun h => h2 h.symm
        clear h2
        go_wp2_with fail
        go_roundw
        case rel => exact ⟨j + 1, by simp, by omega, by simp, HA2.out⟩
        case measure => simp [intOf]; omega
    · obtain rfl : j = n := by omega
      have d1 : decide ((j : Int) < (j : Int)) = false := by simp
      have hmem : Hid (decide ((0 : Int) ≤ -1) = decide (z ∈ zs)) := Lib.hid (by
        rw [decide_eq_false (by omega : ¬ (0 : Int) ≤ -1), eq_comm, decide_eq_false_iff_not]
        intro h
        obtain ⟨t, ht, he⟩ := List.getElem_of_mem h
        rw [HN.out] at ht
        refine HA.out t ht ?_
        rw [List.getD_eq_getElem?_getD, List.getElem?_eq_getElem (by rw [HN.out]; exact ht)]
        exact he)
      go_wp2_with fail
      go_ret
      exact ⟨-1, rfl, hmem.out, rfl⟩
set_option maxHeartbeats 400000 in
theorem contains_c (a : Option Addr) (n cap : Nat) (zs : List Int) (z : Int) (w : World) (hl : zs.length = n) (hn : n ≤ 1000000) (hr : Nums w a zs) :
    Calls Tryd.prog 51 #[.slice a n cap, .int .i64 z] w fun e w' => e = .returned (.bool (decide (z ∈ zs))) ∧ w = w' := by
  have C := Lib.hid (index_c a n cap zs z w hl hn hr)
  clear hl hr
  generalize decide (z ∈ zs) = R at *
  go_enter Tryd.func51, Tryd.ntmps51
  go_wp2_with fail
  refine (show Calls _ _ _ _ _ from C.out).mono ?_
  rintro e w' ⟨r, rfl, hr, rfl⟩
  subst hr
  go_wp2_with fail
  go_ret
  exact ⟨rfl, rfl⟩
/-- What Grow tells, and the zones behind it. -/
def okGrow (m : Dev) (zs : List Int) (z : Int) : Bool := (stateM m z == 0) && !decide (z ∈ zs)
section
variable {L : Nat → Prop} {w : World} {g d : Nat} {F : Nat → Prop} {m : Dev} {v : Value} {zs : List Int}
set_option maxRecDepth 20000 in
set_option maxHeartbeats 1600000 in
theorem lgrow_c (h : Ld L w g d F m v zs) (hw : WF m) (hn : zs.length < 1000000) (z : Int) :
    Calls Tryd.prog 25 #[.pointer (some ⟨g, 0, none⟩), .int .i64 z] w fun e w' => e = .returned (.int .i64 (if okGrow m zs z then 0 else 71)) ∧ (∃ v', Ld (Gr L w w') w' g d F m v' (if okGrow m zs z then zs ++ [z] else zs)) ∧ Fr L w w' := by
  obtain ⟨c0, c1⟩ := h.cells
  obtain ⟨a, cap, rfl, h1, h2, h3⟩ := h.lg.row.nums
  have CS := Lib.hid (state_c h.dz hw z)
  have CC := Lib.hid (contains_c a zs.length cap zs z w rfl (by omega) h3)
  have HO : Hid (okGrow m zs z = ((stateM m z == 0) && !decide (z ∈ zs))) := Lib.hid rfl
  by_cases hs : stateM m z = 0
  · rw [hs] at CS HO
    cases hd : decide (z ∈ zs) with
    | true =>
      rw [hd] at CC HO
      have HL := Lib.hid h
      rw [show okGrow m zs z = false from HO.out]
      clear h h3 hs hd
      generalize zs.length = n at *
      simp only [Bool.false_eq_true, if_false]
      go_enter Tryd.func25, Tryd.ntmps25
      go_wp2_with fail
      refine CS.out.mono ?_
      rintro e w' ⟨rfl, rfl⟩
      go_wp2_with fail
      refine (show Calls _ _ _ _ _ from CC.out).mono ?_
      rintro e w' ⟨rfl, rfl⟩
      go_wp2_with fail
      go_ret
      exact ⟨rfl, ⟨_, HL.out.on (Fr.refl _ _)⟩, Fr.refl _ _⟩
    | false =>
      rw [hd] at CC HO
      rw [show okGrow m zs z = true from HO.out]
      obtain ⟨v', W1, hrun, hrow, hf⟩ := h.lg.row.push (fun k hk => (h.lg.row.1.lt k hk).2) z (by omega)
      obtain ⟨va, vc, rfl, v1, v2, _⟩ := hrow.form
      have hgl : ¬ Own1 (.slice a zs.length cap) g := h.lg.ne
      have k1 := h.lg.hd.keep hf hgl
      have q1 := k1.frozen 1
      have p1 := k1.cell 1
      have p0 := k1.cell 0
      have f2 : Fr (One g) W1 (W1.setCell ⟨g, 1, none⟩ (.slice va (zs ++ [z]).length vc)) := (Fr.refl (One g) W1).setCell (p := ⟨g, 1, none⟩) (fun _ => (rfl : g = g)) _
      have hnew : ∀ k, (Value.slice va (zs ++ [z]).length vc).ownBlock = some k → (Value.slice a zs.length cap).ownBlock = some k ∨ (w.heap.size ≤ k ∧ k < W1.heap.size) := fun k hk => hrow.2 k hk
      have hgw := h.lg.hd.lt
      have hneg : (Value.slice va (zs ++ [z]).length vc).ownBlock ≠ some g := fun e => (hnew g e).elim h.lg.ne fun hh => by omega
      have HL : Hid (Ld (Gr L w (W1.setCell ⟨g, 1, none⟩ (.slice va (zs ++ [z]).length vc))) (W1.setCell ⟨g, 1, none⟩ (.slice va (zs ++ [z]).length vc)) g d F m (.slice va (zs ++ [z]).length vc) (zs ++ [z])) := Lib.hid
        ⟨⟨k1.set_ 1 _, (hrow.own).keep f2 (fun k hk e => hneg (by have e : k = g := e; rw [← e]; exact hk)), hneg⟩,
          (h.dz.keep hf (fun k hk e => h.vF k e hk)).keep f2 (fun k hk e => h.gF (by have e : k = g := e; rw [← e]; exact hk)), h.gF,
          fun k hk hF => (hnew k hk).elim (fun e => h.vF k e hF) fun hh => by have := h.dz.1 k hF; omega, .inl h.gL, fun k hk => (hnew k hk).elim (fun hk => .inl (h.vL k hk)) fun hh => .inr ⟨hh.1, Nat.lt_of_lt_of_le hh.2 f2.size⟩, fun k hk => .inl (h.FL k hk), fun k hk => hk.elim (fun hk => Nat.lt_of_lt_of_le (h.low k hk) (Nat.le_trans hf.size f2.size)) fun hk => hk.2⟩
      have HF : Hid (Fr L w (W1.setCell ⟨g, 1, none⟩ (.slice va (zs ++ [z]).length vc))) := Lib.hid ((hf.sub fun k _ e => h.vL k e).then_ f2 fun k _ e => by have e : k = g := e; rw [e]; exact h.gL)
      have HRUN := Lib.hid hrun
      have hlen : (zs ++ [z]).length = zs.length + 1 := by simp
      rw [hlen] at HL HF HRUN v1
      clear h h3 hs hd hrun hrow hf k1 f2 hnew hneg hgl
      generalize zs.length = n at *
      simp only [if_true]
      simp at p0 p1
      go_enter Tryd.func25, Tryd.ntmps25
      go_wp2_with fail
      refine CS.out.mono ?_
      rintro e w' ⟨rfl, rfl⟩
      go_wp2_with fail
      refine (show Calls _ _ _ _ _ from CC.out).mono ?_
      rintro e w' ⟨rfl, rfl⟩
      go_wp2_with (at_builtin; refine wpList_append_run rfl _ _ 85 rfl rfl rfl HRUN.out ?_)
      go_ret
      exact ⟨rfl, ⟨_, HL.out⟩, HF.out⟩
  · have HL := Lib.hid h
    have hb : (stateM m z == 0) = false := by rw [beq_eq_false_iff_ne]; exact hs
    rw [hb] at HO
    rw [show okGrow m zs z = false from HO.out]
    have e1 : (stateM m z != 0) = true := by rw [bne_iff_ne]; exact hs
    clear h h3 hs hb
    generalize stateM m z = st at *
    generalize zs.length = n at *
    simp only [Bool.false_eq_true, if_false]
    go_enter Tryd.func25, Tryd.ntmps25
    go_wp2_with fail
    refine CS.out.mono ?_
    rintro e w' ⟨rfl, rfl⟩
    go_wp2_with fail
    go_ret
    exact ⟨rfl, ⟨_, HL.out.on (Fr.refl _ _)⟩, Fr.refl _ _⟩
end
end Go.Proofs.YtihahckjcedceaaDoor

namespace Go.Proofs.YtihahckjcedceaaDoor
set_option linter.unusedVariables false
open Go.RowKit

/-- What Append tells; the device behind it. -/
def appNo (m : Dev) (zs : List Int) (l : List UInt8) : Option Int :=
  if m.size < sizeL l.length then some 201 else if zs = [] then some 81 else if roomL m zs < (sizeL l.length : Int) then some 73 else none
def appT (m : Dev) (zs : List Int) (l : List UInt8) : Int × Int × Int := match appNo m zs l with
  | some e => (0, 0, e)
  | none => if cmdR m (appErr m (lastZ zs) (frameL l)) = 0 then (lastZ zs, ptrM m (lastZ zs), 0) else (0, 0, cmdR m (appErr m (lastZ zs) (frameL l)))
def appDv (m : Dev) (zs : List Int) (l : List UInt8) : Dev := match appNo m zs l with
  | some _ => m
  | none => appM m (lastZ zs) (frameL l)
def AppPost (L : Nat → Prop) (g d : Nat) (v : Value) (zs : List Int) (r : Int × Int × Int) (m' : Dev) (w : World) (e : Ending) (w' : World) : Prop :=
  e = .returned (.tuple #[.int .i64 r.1, .int .i64 r.2.1, .int .i64 r.2.2]) ∧ (∃ F', Ld (Gr L w w') w' g d F' m' v zs) ∧ Fr L w w'
theorem field_size (x y z : Int) (w : World) : (Instr.field 84 (.agg #[.int .i64 x, .int .i64 y, .int .i64 z]) 1).run Tryd.prog w = .ok (.int .i64 y) w := by kernel_rfl
section
variable {L : Nat → Prop} {w : World} {g d : Nat} {F : Nat → Prop} {m : Dev} {v : Value} {zs : List Int}
set_option maxRecDepth 20000 in
set_option maxHeartbeats 3200000 in
theorem lappend_c (h : Ld L w g d F m v zs) (hw : WF m) (hd : m.done < 1000000) (hn : zs.length ≤ 1000000) (a : Option Addr) (len cap : Nat) (l : List UInt8) (hl : l.length = len) (hlm : len ≤ 500000) (hr : Rd w a l) (ht : Tab w) :
    Calls Tryd.prog 32 #[.pointer (some ⟨g, 0, none⟩), .slice a len cap] w (AppPost L g d v zs (appT m zs l) (appDv m zs l) w) := by
  have CZ := Lib.hid (fsize_c len w (by omega))
  have CG := Lib.hid (geometry_c h.dz)
  have HL := Lib.hid h
  have hs64 := hw.s64
  have HS : Hid (sizeL l.length = sizeL len) := Lib.hid (by rw [hl])
  have hsz := sizeL_le (n := len) (by omega)
  have hfd := field_size
  obtain ⟨S, hS⟩ : ∃ S, sizeL len = S := ⟨_, rfl⟩
  rw [hS] at CZ HS hsz
  by_cases h1 : m.size < S
  · have HN : Hid (appNo m zs l = some 201) := Lib.hid (by unfold appNo; rw [HS.out, if_pos h1])
    have HE : Hid (appT m zs l = (0, 0, 201) ∧ appDv m zs l = m) := Lib.hid (by unfold appT appDv; rw [HN.out]; exact ⟨rfl, rfl⟩)
    rw [HE.out.1, HE.out.2]
    obtain ⟨c0, c1⟩ := h.cells
    have d1 : decide ((m.size : Int) < (S : Int)) = true := by rw [decide_eq_true_eq]; omega
    clear h hr ht hl hS
    generalize m.size = sz at *
    generalize m.opn = op at *
    generalize m.zs.length = nz at *
    go_enter Tryd.func32, Tryd.ntmps32
    go_wp2_with fail
    refine (show Calls _ _ _ _ _ from CZ.out).mono ?_
    rintro e w' ⟨rfl, rfl⟩
    go_wp2_with fail
    refine (show Calls _ _ _ _ _ from CG.out).mono ?_
    rintro e w' ⟨rfl, hf⟩
    have HF := Lib.hid hf
    have HL2 := Lib.hid (HL.out.on hf)
    clear hf
    go_wp2_with fail
    go_ret3
    exact ⟨rfl, ⟨F, HL2.out⟩, HF.out.sub fun _ _ h => h.elim⟩
  have d1 : decide ((m.size : Int) < (S : Int)) = false := by rw [decide_eq_false_iff_not]; omega
  by_cases h2 : zs = []
  · have HN : Hid (appNo m zs l = some 81) := Lib.hid (by unfold appNo; rw [HS.out, if_neg h1, if_pos h2])
    have HE : Hid (appT m zs l = (0, 0, 81) ∧ appDv m zs l = m) := Lib.hid (by unfold appT appDv; rw [HN.out]; exact ⟨rfl, rfl⟩)
    rw [HE.out.1, HE.out.2]
    clear HE HN
    subst h2
    obtain ⟨c0, c1⟩ := h.cells
    obtain ⟨va, vc, rfl, v1, v2, _⟩ := h.lg.row.nums
    simp only [List.length_nil] at c1 v1
    clear h hr ht hl hS
    generalize m.size = sz at *
    generalize m.opn = op at *
    generalize m.zs.length = nz at *
    go_enter Tryd.func32, Tryd.ntmps32
    go_wp2_with fail
    refine (show Calls _ _ _ _ _ from CZ.out).mono ?_
    rintro e w' ⟨rfl, rfl⟩
    go_wp2_with fail
    refine (show Calls _ _ _ _ _ from CG.out).mono ?_
    rintro e w' ⟨rfl, hf⟩
    have HF := Lib.hid hf
    have c1 := hf.cell c1 (fun h => h)
    have HL2 := Lib.hid (HL.out.on hf)
    clear hf
    go_wp2_with fail
    go_ret3
    exact ⟨rfl, ⟨F, HL2.out⟩, HF.out.sub fun _ _ h => h.elim⟩
  obtain ⟨c0, c1⟩ := h.cells
  obtain ⟨va, vc, rfl, v1, v2, _⟩ := h.lg.row.nums
  have hpos := List.length_pos_iff.2 h2
  obtain ⟨n, hn1⟩ : ∃ n, zs.length = n := ⟨_, rfl⟩
  have d2 : ((n : Int) == 0) = false := by rw [beq_eq_false_iff_ne]; omega
  have CR := Lib.hid (fun (w' : World) (f : Fr No w w') => lroom_c (h.keep f (fun _ _ h => h)) hw hn)
  by_cases h3 : roomL m zs < (S : Int)
  · have HN : Hid (appNo m zs l = some 73) := Lib.hid (by unfold appNo; rw [HS.out, if_neg h1, if_neg h2, if_pos h3])
    have HE : Hid (appT m zs l = (0, 0, 73) ∧ appDv m zs l = m) := Lib.hid (by unfold appT appDv; rw [HN.out]; exact ⟨rfl, rfl⟩)
    rw [HE.out.1, HE.out.2]
    rw [hn1] at c1 HL
    rw [hn1]
    have d3 : decide (roomL m zs < (S : Int)) = true := by rw [decide_eq_true_eq]; exact h3
    clear h hr ht hl hS h3 HE HN
    generalize m.size = sz at *
    generalize m.opn = op at *
    generalize m.zs.length = nz at *
    generalize roomL m zs = rl at *
    go_enter Tryd.func32, Tryd.ntmps32
    go_wp2_with fail
    refine (show Calls _ _ _ _ _ from CZ.out).mono ?_
    rintro e w' ⟨rfl, rfl⟩
    go_wp2_with fail
    refine (show Calls _ _ _ _ _ from CG.out).mono ?_
    rintro e w1 ⟨rfl, hf⟩
    have HF := Lib.hid hf
    have c1 := hf.cell c1 (fun h => h)
    have CR1 := Lib.hid (CR.out w1 hf)
    clear hf CR
    go_wp2_with fail
    refine (show Calls _ _ _ _ _ from CR1.out).mono ?_
    rintro e w2 ⟨rfl, hf⟩
    have HF2 := Lib.hid (HF.out.trans hf)
    have HL2 := Lib.hid (HL.out.on (HF.out.trans hf))
    clear hf
    go_wp2_with fail
    go_ret3
    exact ⟨rfl, ⟨F, HL2.out⟩, HF2.out.sub fun _ _ h => h.elim⟩
  have d3 : decide (roomL m zs < (S : Int)) = false := by rw [decide_eq_false_iff_not]; exact h3
  have HN : Hid (appNo m zs l = none) := Lib.hid (by unfold appNo; rw [HS.out, if_neg h1, if_neg h2, if_neg h3])
  have HE : Hid (appT m zs l = (if cmdR m (appErr m (lastZ zs) (frameL l)) = 0 then (lastZ zs, ptrM m (lastZ zs), 0) else (0, 0, cmdR m (appErr m (lastZ zs) (frameL l)))) ∧ appDv m zs l = appM m (lastZ zs) (frameL l)) := Lib.hid (by unfold appT appDv; rw [HN.out]; exact ⟨rfl, rfl⟩)
  rw [HE.out.2]
  have HT1 := Lib.hid HE.out.1
  have hfl : (frameL l).length = S := by rw [frameL_length, HS.out]
  have CL := Lib.hid (fun (w' : World) (f : Fr No w w') => last_c (h.keep f (fun _ _ h => h)).lg h2 hn)
  have CP := Lib.hid (fun (w' : World) (f : Fr No w w') => pointer_c (h.keep f (fun _ _ h => h)).dz hw (lastZ zs))
  have CFR := Lib.hid (fun (w' : World) (f : Fr No w w') => frame_c a len cap l w' hl (by omega) (hr.keep f) (ht.keep f (fun h => h)))
  have CAP := Lib.hid (fun (w' w2 : World) (f : Fr No w w') (f2 : Fr No w' w2) (fa : Option Addr) (fc : Nat) (h1 : S ≤ fc) (h2 : fc ≤ maxLen) (hi : In w2 (Gr No w' w2) fa (frameL l)) => (append_c ((h.keep f (fun _ _ h => h)).keep f2 (fun _ _ h => h)).dz hw hd (lastZ zs) (Gr No w' w2) fa fc (frameL l) (by rw [hfl]; omega) (by rw [hfl]; exact h1) h2 hi (fun k hk hF => hk.elim (fun h => h) fun hk => by
    have := h.dz.1 k hF
    have := f.size
    omega)).mono fun e w3 hm => ((h.keep f (fun _ _ h => h)).keep f2 (fun _ _ h => h)).move hm)
  rw [hfl] at CAP
  have HFL := Lib.hid hfl
  rw [hn1] at c1 HL CAP
  rw [hn1]
  clear h hr ht hl hS h3 HE HN hfl h2 v2
  obtain ⟨rr, hrr⟩ : ∃ r, cmdR m (appErr m (lastZ zs) (frameL l)) = r := ⟨_, rfl⟩
  rw [hrr] at CAP HT1
  clear hrr
  generalize appM m (lastZ zs) (frameL l) = M at *
  generalize ptrM m (lastZ zs) = pt at *
  generalize frameL l = fr at *
  generalize lastZ zs = lz at *
  generalize roomL m zs = rl at *
  by_cases h4 : rr = 0
  · subst h4
    rw [if_pos rfl] at HT1
    rw [HT1.out]
    clear HT1
    generalize m.size = sz at *
    generalize m.opn = op at *
    generalize m.zs.length = nz at *
    go_enter Tryd.func32, Tryd.ntmps32
    go_wp2_with fail
    refine (show Calls _ _ _ _ _ from CZ.out).mono ?_
    rintro e w' ⟨rfl, rfl⟩
    go_wp2_with fail
    refine (show Calls _ _ _ _ _ from CG.out).mono ?_
    rintro e w1 ⟨rfl, hf⟩
    have HF := Lib.hid hf
    have c1 := hf.cell c1 (fun h => h)
    have CR1 := Lib.hid (CR.out w1 hf)
    clear hf CR CG CZ
    go_wp2_with fail
    refine (show Calls _ _ _ _ _ from CR1.out).mono ?_
    rintro e w2 ⟨rfl, hf⟩
    have HF2 := Lib.hid (HF.out.trans hf)
    have CL2 := Lib.hid (CL.out w2 (HF.out.trans hf))
    clear hf CR1 CL HF
    go_wp2_with fail
    refine (show Calls _ _ _ _ _ from CL2.out).mono ?_
    rintro e w3 ⟨rfl, k, hk⟩
    have HF3 : Hid (Fr No w w3) := Lib.hid (by rw [hk]; exact HF2.out.drewN k)
    have c0 := HF3.out.cell c0 (fun h => h)
    have CP3 := Lib.hid (CP.out w3 HF3.out)
    clear hk CL2 CP HF2
    go_wp2_with fail
    refine (show Calls _ _ _ _ _ from CP3.out).mono ?_
    rintro e w4 ⟨rfl, rfl⟩
    clear CP3
    go_wp2_with fail
    go_region_held3 (fun w' => w'.cell? ⟨g, 0, none⟩ = some (.pointer (some ⟨d, 0, none⟩))) (first | assumption | go_keep)
      (first
        | (go_at_call 60; refine (CFR.out w3.drew HF3.out.drew).mono ?_; rintro e w5 ⟨vf, rfl, hrow, hf⟩
           obtain ⟨fa, fc, rfl, f1, f2, fin⟩ := hrow.form
           rw [HFL.out] at f1
           rw [HFL.out]
           have c0 := hf.cell (p := ⟨g, 0, none⟩) (v := .pointer (some ⟨d, 0, none⟩)) c0 (fun h => h)
           have HF5 := Lib.hid (HF3.out.drew.trans hf)
           have CA5 := Lib.hid (CAP.out w3.drew w5 HF3.out.drew hf fa fc f1 f2 fin)
           clear hrow hf fin f1 f2 CFR CAP)
        | (go_at_call 29; refine (show Calls _ _ _ _ _ from CA5.out).mono ?_; rintro e w6 ⟨rfl, ⟨F', hl6⟩, hf6⟩
           have c0 := hl6.cells.1
           have HL6 := Lib.hid (hl6.sub (L' := Gr L w w6) (fun k hk => hk.elim (fun hk => .inl hk) fun hk => .inr ⟨Nat.le_trans HF5.out.size hk.1, hk.2⟩) (fun k hk => hk.elim (fun hk => hl6.low k (.inl hk)) fun hk => hk.2))
           have HF6 := Lib.hid ((HF5.out.sub (T := L) fun _ _ h => h.elim).trans hf6)
           clear hl6 hf6 CA5))
    go_wp2_with fail
    go_ret3
    exact ⟨rfl, ⟨_, HL6.out⟩, HF6.out⟩
  · rw [if_neg h4] at HT1
    rw [HT1.out]
    clear HT1
    have e4 : (rr != 0) = true := by rw [bne_iff_ne]; exact h4
    clear h4
    generalize m.size = sz at *
    generalize m.opn = op at *
    generalize m.zs.length = nz at *
    go_enter Tryd.func32, Tryd.ntmps32
    go_wp2_with fail
    refine (show Calls _ _ _ _ _ from CZ.out).mono ?_
    rintro e w' ⟨rfl, rfl⟩
    go_wp2_with fail
    refine (show Calls _ _ _ _ _ from CG.out).mono ?_
    rintro e w1 ⟨rfl, hf⟩
    have HF := Lib.hid hf
    have c1 := hf.cell c1 (fun h => h)
    have CR1 := Lib.hid (CR.out w1 hf)
    clear hf CR CG CZ
    go_wp2_with fail
    refine (show Calls _ _ _ _ _ from CR1.out).mono ?_
    rintro e w2 ⟨rfl, hf⟩
    have HF2 := Lib.hid (HF.out.trans hf)
    have CL2 := Lib.hid (CL.out w2 (HF.out.trans hf))
    clear hf CR1 CL HF
    go_wp2_with fail
    refine (show Calls _ _ _ _ _ from CL2.out).mono ?_
    rintro e w3 ⟨rfl, k, hk⟩
    have HF3 : Hid (Fr No w w3) := Lib.hid (by rw [hk]; exact HF2.out.drewN k)
    have c0 := HF3.out.cell c0 (fun h => h)
    have CP3 := Lib.hid (CP.out w3 HF3.out)
    clear hk CL2 CP HF2
    go_wp2_with fail
    refine (show Calls _ _ _ _ _ from CP3.out).mono ?_
    rintro e w4 ⟨rfl, rfl⟩
    clear CP3
    go_wp2_with fail
    go_region_held3 (fun w' => w'.cell? ⟨g, 0, none⟩ = some (.pointer (some ⟨d, 0, none⟩))) (first | assumption | go_keep)
      (first
        | (go_at_call 60; refine (CFR.out w3.drew HF3.out.drew).mono ?_; rintro e w5 ⟨vf, rfl, hrow, hf⟩
           obtain ⟨fa, fc, rfl, f1, f2, fin⟩ := hrow.form
           rw [HFL.out] at f1
           rw [HFL.out]
           have c0 := hf.cell (p := ⟨g, 0, none⟩) (v := .pointer (some ⟨d, 0, none⟩)) c0 (fun h => h)
           have HF5 := Lib.hid (HF3.out.drew.trans hf)
           have CA5 := Lib.hid (CAP.out w3.drew w5 HF3.out.drew hf fa fc f1 f2 fin)
           clear hrow hf fin f1 f2 CFR CAP)
        | (go_at_call 29; refine (show Calls _ _ _ _ _ from CA5.out).mono ?_; rintro e w6 ⟨rfl, ⟨F', hl6⟩, hf6⟩
           have c0 := hl6.cells.1
           have HL6 := Lib.hid (hl6.sub (L' := Gr L w w6) (fun k hk => hk.elim (fun hk => .inl hk) fun hk => .inr ⟨Nat.le_trans HF5.out.size hk.1, hk.2⟩) (fun k hk => hk.elim (fun hk => hl6.low k (.inl hk)) fun hk => hk.2))
           have HF6 := Lib.hid ((HF5.out.sub (T := L) fun _ _ h => h.elim).trans hf6)
           clear hl6 hf6 CA5))
    go_wp2_with fail
    go_ret3
    exact ⟨rfl, ⟨_, HL6.out⟩, HF6.out⟩
end
end Go.Proofs.YtihahckjcedceaaDoor
