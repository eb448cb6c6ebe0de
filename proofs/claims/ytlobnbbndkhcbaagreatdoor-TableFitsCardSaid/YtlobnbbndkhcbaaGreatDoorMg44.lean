/-
  Texts of layer 13 and of what it stands on, one behind the other.
-/
import Derived.Test.YtlobnbbndkhcbaaGreatDoorMg43

/- Layer 13, the program's own: Large. -/
namespace Go.Proofs.YtlobnbbndkhcbaaGreatDoor
set_option linter.unusedVariables false
set_option linter.unusedSimpArgs false
open Go.RowKit

set_option maxRecDepth 20000 in
set_option maxHeartbeats 1600000 in
theorem tlarge_c {w : World} {t : Nat} {F : Nat → Prop} {l : List Ent} {c : Nat} (h : TbM w t F l c) : Calls Tryz.prog 25 #[.pointer (some ⟨t, 0, none⟩)] w (PlainRet (keyV (l.getD (l.length - 1) ent0)) w) := by
  obtain ⟨_, _, ea, ec, bf, g, fb, p, hat, _, _, hen, _, _, _, hr, hfew, _⟩ := h
  have h1 := hr.2.1
  obtain ⟨b, o, _, rfl, hx⟩ := hen (by omega)
  obtain ⟨p, hp⟩ : ∃ p, p + 1 = l.length := ⟨l.length - 1, by omega⟩
  have hlp : l.length - 1 = p := by omega
  rw [hlp]
  have hx := hx p (by omega)
  obtain ⟨W, hW⟩ : ∃ W, w.alloc (.cells #[.string ⟨#[]⟩, .int .i64 0, .int .i64 0] 46) = W := ⟨_, rfl⟩
  have f0 : Fr No w W := by rw [← hW]; exact (Fr.refl No w).alloc _
  have a0 : At W w.heap.size 46 #[.string ⟨#[]⟩, .int .i64 0, .int .i64 0] := by rw [← hW]; exact At.new _ _ _
  have c0 := f0.cell (hat.cell 0) (fun h => h)
  obtain ⟨x, hxe⟩ : ∃ x, l.getD p ent0 = x := ⟨_, rfl⟩
  rw [hxe] at hx ⊢
  have d0 := f0.cell hx.c0 (fun h => h)
  have d1 := f0.cell hx.c1 (fun h => h)
  have d2 := f0.cell hx.c2 (fun h => h)
  simp at c0 d0 d1 d2
  have z0 := a0.frozen 0
  have z1 := (a0.set_ 0 (.string x.u)).frozen 1
  have z2 := ((a0.set_ 0 (.string x.u)).set_ 1 (.int .i64 x.q)).frozen 2
  have y0 := a0.cell 0
  have y1 := (a0.set_ 0 (.string x.u)).cell 1
  have y2 := ((a0.set_ 0 (.string x.u)).set_ 1 (.int .i64 x.q)).cell 2
  have AZ := Lib.hid (((a0.set_ 0 (.string x.u)).set_ 1 (.int .i64 x.q)).set_ 2 (.int .i64 x.k))
  have FZ := Lib.hid (((f0.setCell (p := ⟨w.heap.size, 0, none⟩) (fun h => absurd h (Nat.lt_irrefl _)) (.string x.u)).setCell (p := ⟨w.heap.size, 1, none⟩) (fun h => absurd h (Nat.lt_irrefl _)) (.int .i64 x.q)).setCell (p := ⟨w.heap.size, 2, none⟩) (fun h => absurd h (Nat.lt_irrefl _)) (.int .i64 x.k))
  have HW := Lib.hid hW
  have hpi : (l.length : Int) - 1 = (p : Int) := by omega
  have hp0 : (0 : Int) ≤ (p : Int) := by omega
  have hpl : (p : Int) < (l.length : Int) := by omega
  have hl17 := hfew.len
  obtain ⟨n, hn⟩ : ∃ n, l.length = n := ⟨_, rfl⟩
  rw [hn] at hpi hpl hl17 c0
  have hwr : IntKind.i64.wrap ((n : Int) - 1) = (p : Int) := by rw [hpi]; exact IntWalk.i64_in _ (by omega)
  have hwm : IntKind.i64.wrap (p : Int) = (p : Int) := IntWalk.i64_in _ (by omega)
  have AZ2 := Lib.hid (AZ.out.keep (Fr.refl No _).drew (fun h => h))
  have FZ2 := Lib.hid FZ.out.drew
  clear hat hen hr hx hxe f0 a0 hlp hp hn h1 hfew
  go_enter Tryz.func25, Tryz.ntmps25
  go_wp2_with fail
  try rw [HW.out]
  clear hW
  all_goals go_region
  rename_i hKK
  refine hKK _ _ ?_
  clear hKK
  go_wp2_with fail
  exact bodyPost_ret (key_results rfl _ _ _ _ _ _ rfl AZ2.out) rfl ⟨rfl, FZ2.out⟩
end Go.Proofs.YtlobnbbndkhcbaaGreatDoor
