/-
  Layer 11: the law's ref and same, of what is alike.
-/
import Derived.Test.YtggjkpgkmohmdaaMeD
namespace Go.Proofs.Ytggjkpgkmohmdaa
set_option linter.unusedVariables false
open Go.RowKit

theorem infoKeyR : (Try.prog.info? 35).map (·.size) = some 3 := by kernel_rfl
theorem refK_results (tmps : Array Value) (w : World) (g : Nat) (x y z : Value) (hp : tmps.getD 2 undef = .pointer (some ⟨g, 0, none⟩)) (hg : At w g 35 #[x, y, z]) :
    (results Try.f12 tmps).run Try.prog w = .ok (.agg #[x, y, z]) w := by
  have hp' : tmps[2]?.getD undef = .pointer (some ⟨g, 0, none⟩) := by simpa using hp
  have hl := run_loadVar_row (P := Try.prog) w g 35 35 #[x, y, z] (0, 0) _ hg Try.underlying35 rfl infoKeyR
  simp [results, Try.results12, hp', asAddr, hl]
set_option maxHeartbeats 800000 in
theorem refK_c (u : ByteArray) (q k : Int) (w : World) : Calls Try.prog 12 #[.agg #[.string u, .int .i64 q, .int .i64 k]] w (Ask (.agg #[.string u, .int .i64 q, .int .i64 k]) w) := by
  obtain ⟨W1, hW1⟩ : ∃ W, w.alloc (.cells #[.string u, .int .i64 q, .int .i64 k] 37) = W := ⟨_, rfl⟩
  have f1 : Fr No w W1 := by rw [← hW1]; exact (Fr.refl _ _).alloc _
  have hs : W1.heap.size = w.heap.size + 1 := by rw [← hW1]; simp
  have a2 := At.new W1 35 #[.string u, .int .i64 q, .int .i64 k]
  rw [hs] at a2
  have HA := Lib.hid a2
  have HF := Lib.hid (f1.alloc (.cells #[.string u, .int .i64 q, .int .i64 k] 35))
  have HW1 := Lib.hid hW1
  clear f1 a2 hs hW1
  go_enter Try.func12, Try.ntmps12
  go_wp2_with fail
  rw [HW1.out]
  refine bodyPost_ret (refK_results _ _ _ _ _ _ rfl HA.out) rfl ?_
  exact ⟨rfl, HF.out⟩
/-- What is not there is told as the document says. -/
theorem sameE_none (a : Option Addr) (cap n : Nat) (w : World) : Calls Try.prog 14 #[entV ent0, .bool false, .slice a n cap, .int .i64 (-1)] w (Ask (.bool true) w) := by
  obtain ⟨W, hW, hfW, hat⟩ := box_ent w ent0 39
  have HW := Lib.hid hW
  have HF := Lib.hid hfW
  obtain ⟨x0, x1, x2, x3⟩ := hat
  clear hW hfW
  have d1 : (ByteArray.empty.toList == (⟨#[]⟩ : ByteArray).toList) = true := beq_self_eq_true _
  simp only [ent0] at x0 x1 x2 x3
  unfold entV
  simp only [ent0]
  go_enter Try.func14, Try.ntmps14
  go_wp2_with fail
  go_ret
  exact ⟨rfl, (Fr.refl _ _).alloc _⟩
set_option maxRecDepth 20000 in
set_option maxHeartbeats 1600000 in
/-- What is there is told as the document says. -/
theorem sameE_yes (x : Ent) (a : Option Addr) (cap n j : Nat) (l : List Ent) (w : World) (S : Nat → Prop) (hn : l.length = n) (hm : n ≤ 900000) (hj : j < n) (hi : Ents w S a l) (hx : l.getD j ent0 = x) :
    Calls Try.prog 14 #[entV x, .bool true, .slice a n cap, .int .i64 (j : Int)] w (Ask (.bool true) w) := by
  obtain ⟨W, hW, hfW, hat⟩ := box_ent w x 39
  obtain ⟨b, o, _, rfl, hxs⟩ := hi (by omega)
  have hy := (hxs j (by omega)).keep hfW (fun h => h)
  rewrite [hx] at hy
  obtain ⟨B, hB⟩ : ∃ B, w.heap.size = B := ⟨_, rfl⟩
  rewrite [hB] at hat
  have HW := Lib.hid hW
  have HB := Lib.hid hB
  have HC := Lib.hid (fun w' => refK_c x.u x.q x.k w')
  obtain ⟨x0, x1, x2, x3⟩ := hat
  obtain ⟨c0, c1, c2, c3⟩ := hy
  have hfx := hfW.drew
  have d0 : (x.u.toList == x.u.toList) = true := beq_self_eq_true _
  have d1 : (x.q == x.q) = true := beq_self_eq_true _
  have d2 : (x.k == x.k) = true := beq_self_eq_true _
  have d3 : (x.val.toList == x.val.toList) = true := beq_self_eq_true _
  have hjn : (j : Int) < (n : Int) := by omega
  clear hW hB hfW hi hxs hx
  unfold entV
  go_enter Try.func14, Try.ntmps14
  go_wp2_with fail
  rw [HW.out, HB.out]
  go_region_held3 (fun w' => w'.cell? ⟨B, 0, none⟩ = some (.string x.u) ∧ w'.cell? ⟨B, 0 + 1, none⟩ = some (.int .i64 x.q) ∧ w'.cell? ⟨B, 0 + 2, none⟩ = some (.int .i64 x.k) ∧ w'.cell? ⟨B, 0 + 3, none⟩ = some (.string x.val) ∧
      w'.cell? ⟨b, o + j * 4, none⟩ = some (.string x.u) ∧ w'.cell? ⟨b, o + j * 4 + 1, none⟩ = some (.int .i64 x.q) ∧ w'.cell? ⟨b, o + j * 4 + 2, none⟩ = some (.int .i64 x.k) ∧ w'.cell? ⟨b, o + j * 4 + 3, none⟩ = some (.string x.val) ∧ Fr No w w') (first | assumption | go_keep)
    (first
      | (go_at_call 12; refine (HC.out _).mono ?_; intro e w6 hret; obtain ⟨rfl, hf6⟩ := hret
         have x0 := hf6.cell (p := ⟨B, 0, none⟩) x0 (fun h => h)
         have x1 := hf6.cell (p := ⟨B, 0 + 1, none⟩) x1 (fun h => h)
         have x2 := hf6.cell (p := ⟨B, 0 + 2, none⟩) x2 (fun h => h)
         have x3 := hf6.cell (p := ⟨B, 0 + 3, none⟩) x3 (fun h => h)
         have c0 := hf6.cell (p := ⟨b, o + j * 4, none⟩) c0 (fun h => h)
         have c1 := hf6.cell (p := ⟨b, o + j * 4 + 1, none⟩) c1 (fun h => h)
         have c2 := hf6.cell (p := ⟨b, o + j * 4 + 2, none⟩) c2 (fun h => h)
         have c3 := hf6.cell (p := ⟨b, o + j * 4 + 3, none⟩) c3 (fun h => h)
         have hfx := hfx.trans hf6
         clear hf6))
  have HFX := Lib.hid hfx
  clear hfx
  go_wp2_with fail
  go_ret
  exact ⟨rfl, HFX.out⟩
end Go.Proofs.Ytggjkpgkmohmdaa
