/-
  Layer 10, the program's own: readOp.
-/
import Derived.Test.YtidfjcaajejfoaaBcM
import Derived.Test.YtidfjcaajejfoaaBaFi
namespace Go.Proofs.Ytidfjcaajejfoaa
set_option linter.unusedVariables false
open Go.RowKit

theorem infoOpR : (Try.prog.info? 30).map (·.size) = some 3 := by kernel_rfl
theorem readOp_results (tmps : Array Value) (w : World) (g : Nat) (x y z : Value) (hp : tmps.getD 2 undef = .pointer (some ⟨g, 0, none⟩)) (hg : At w g 30 #[x, y, z]) :
    (results Try.f33 tmps).run Try.prog w = .ok (.agg #[x, y, z]) w := by
  have hp' : tmps[2]?.getD undef = .pointer (some ⟨g, 0, none⟩) := by simpa using hp
  have hl := run_loadVar_row (P := Try.prog) w g 30 30 #[x, y, z] (0, 0) _ hg Try.underlying30 rfl infoOpR
  simp [results, Try.results33, hp', asAddr, hl]
/-- Three cells are stored. -/
theorem At.put3 {w : World} {g : Nat} {t : TypeId} {a b c : Value} (h : At w g t #[a, b, c]) (x y z : Value) :
    At (((w.setCell ⟨g, 0, none⟩ x).setCell ⟨g, 1, none⟩ y).setCell ⟨g, 2, none⟩ z) g t #[x, y, z] ∧ Fr (One g) w (((w.setCell ⟨g, 0, none⟩ x).setCell ⟨g, 1, none⟩ y).setCell ⟨g, 2, none⟩ z) :=
  ⟨((h.set_ 0 x).set_ 1 y).set_ 2 z, (((Fr.refl (One g) w).setCell (p := ⟨g, 0, none⟩) (fun _ => rfl) _).setCell (p := ⟨g, 1, none⟩) (fun _ => rfl) _).setCell (p := ⟨g, 2, none⟩) (fun _ => rfl) _⟩
/-- An op comes back, and the reader is in state st'. -/
def OpRet (x : Op10) (B : Nat) (S : Nat → Prop) (st' : St) (w : World) (e : Ending) (w' : World) : Prop := e = .returned (opV x) ∧ Rr w' B S st' ∧ Fr (One B) w w'
set_option maxRecDepth 20000 in
set_option maxHeartbeats 3200000 in
theorem readOp_c (w : World) (B : Nat) (S : Nat → Prop) (st : St) (hr : Rr w B S st) (hS : ∀ k, S k → k < w.heap.size) :
    Calls Try.prog 33 #[.pointer (some ⟨B, 0, none⟩)] w (OpRet (opS st).1 B S (opS st).2 w) := by
  obtain ⟨W1, hW1, hf1, hat1⟩ := box_op w op0
  have hat1 : At W1 w.heap.size 30 #[.int .i64 0, .string ⟨#[]⟩, .string ⟨#[]⟩] := by rw [← hW1]; exact At.new _ _ _
  have hW1 : w.alloc (.cells #[.int .i64 0, .string ⟨#[]⟩, .string ⟨#[]⟩] 30) = W1 := hW1
  have hBl := hr.lt
  obtain ⟨G, hG⟩ : ∃ G, w.heap.size = G := ⟨_, rfl⟩
  rw [hG] at hat1 hBl hS
  have hr1 := hr.keep hf1 (fun h => h) (fun _ _ h => h)
  have hOP : Hid (opS st = if (byteS st).1 = 1 then (⟨1, strOf (textS (byteS st).2).1, strOf (textS (textS (byteS st).2).2).1⟩, (textS (textS (byteS st).2).2).2)
    else (⟨((byteS st).1.toNat : Int), strOf (textS (byteS st).2).1, ByteArray.empty⟩, (textS (byteS st).2).2)) := Lib.hid rfl
  have C1 := Lib.hid (rbyte_c W1 B S st hr1)
  obtain ⟨X, hX⟩ : ∃ X, (opS st).1 = X := ⟨_, rfl⟩
  obtain ⟨stX, hstX⟩ : ∃ s, (opS st).2 = s := ⟨_, rfl⟩
  have HX := Lib.hid hX
  have HSX := Lib.hid hstX
  rw [hX, hstX]
  obtain ⟨c, hc⟩ : ∃ c, (byteS st).1 = c := ⟨_, rfl⟩
  obtain ⟨st1, hst1⟩ : ∃ s, (byteS st).2 = s := ⟨_, rfl⟩
  rw [hc, hst1] at hOP C1
  have HAT1 := Lib.hid hat1
  have HF1 := Lib.hid hf1
  have HW1 := Lib.hid hW1
  have HG := Lib.hid hG
  have hcl := c.toNat_lt
  obtain ⟨ci, hci⟩ : ∃ ci : Int, ((c.toNat : Nat) : Int) = ci := ⟨_, rfl⟩
  rw [hci] at hOP C1
  have hci0 : 0 ≤ ci ∧ ci ≤ 255 := by omega
  have HCI : Hid (c = 1 ↔ ci = 1) := Lib.hid ⟨fun h => by rw [← hci, h]; rfl, fun h => UInt8.toNat_inj.1 (show c.toNat = 1 by omega)⟩
  clear hcl hci
  clear hX hstX hc hst1 hat1 hf1 hW1 hr1 hG hr
  go_enter Try.func33, Try.ntmps33
  go_wp2_with fail
  rw [HW1.out, HG.out]
  go_wp2_with fail
  refine C1.out.mono ?_
  rintro e w2 ⟨rfl, hr2, hf2⟩
  have hBG : ¬ One B G := fun h => by have h : G = B := h; omega
  have HAT2 := Lib.hid (HAT1.out.keep hf2 hBG)
  have HF2 := Lib.hid ((HF1.out.sub (T := One B) fun _ _ h => h.elim).trans hf2)
  have C2 := Lib.hid (rtext_c w2 B S st1 hr2)
  obtain ⟨k, hk⟩ : ∃ k, (textS st1).1 = k := ⟨_, rfl⟩
  obtain ⟨st2, hst2⟩ : ∃ s, (textS st1).2 = s := ⟨_, rfl⟩
  rw [hk, hst2] at hOP C2
  clear hk hst2 hr2 hf2 C1 HAT1 HF1 HW1
  go_wp2_with fail
  refine C2.out.mono ?_
  rintro e w3 ⟨a3, c3, rfl, hin3, hr3, hf3⟩
  have hcv := conv_rd w3 a3 k.length c3 k rfl hin3.rd
  have HAT3 := Lib.hid (HAT2.out.keep hf3 hBG)
  have HF3 := Lib.hid (HF2.out.trans hf3)
  obtain ⟨sk, hsk⟩ : ∃ s, strOf k = s := ⟨_, rfl⟩
  rw [hsk] at hcv hOP
  obtain ⟨W4, hW4, hf4, hat4'⟩ := box_op w3 ⟨ci, sk, ByteArray.empty⟩
  have hat4 : At W4 w3.heap.size 30 #[.int .i64 ci, .string sk, .string ⟨#[]⟩] := by rw [← hW4]; exact At.new _ _ _
  have hW4 : w3.alloc (.cells #[.int .i64 ci, .string sk, .string ⟨#[]⟩] 30) = W4 := hW4
  have hGD : G < w3.heap.size := HAT3.out.lt
  obtain ⟨D, hD⟩ : ∃ D, w3.heap.size = D := ⟨_, rfl⟩
  rw [hD] at hat4 hGD
  have HR4 := Lib.hid (hr3.keep hf4 (fun h => h) (fun _ _ h => h))
  have HAT4 := Lib.hid (HAT3.out.keep hf4 (fun h => h))
  have HF4 := Lib.hid (HF3.out.then_ hf4 fun _ _ h => h.elim)
  have HD4 := Lib.hid hat4
  have HW4 := Lib.hid hW4
  have HD := Lib.hid hD
  have d0 := hat4.cell 0
  have d1 := hat4.cell 1
  have d2 := hat4.cell 2
  rw [← hW4] at d0 d1 d2
  have e0 := HAT4.out.cell 0
  have e1 := HAT4.out.cell 1
  have e2 := HAT4.out.cell 2
  have z0 := HAT4.out.frozen 0
  have z1 := HAT4.out.frozen 1
  have z2 := HAT4.out.frozen 2
  rw [← hW4] at e0 e1 e2 z0 z1 z2
  have hcw : IntKind.i64.wrap ci = ci := IntWalk.i64_in _ (by omega)
  clear hf4 hat4 hat4' hW4 hD hr3 hf3 hin3 HAT2 HF2 HF3 HAT3 hsk C2
  generalize k.length = kn at hcv ⊢
  by_cases h1 : ci = 1
  · subst h1
    rw [if_pos (HCI.out.2 rfl)] at hOP
    have C5 := Lib.hid (rtext_c W4 B S st2 HR4.out)
    obtain ⟨v, hv⟩ : ∃ v, (textS st2).1 = v := ⟨_, rfl⟩
    obtain ⟨st3, hst3⟩ : ∃ s, (textS st2).2 = s := ⟨_, rfl⟩
    rw [hv, hst3] at hOP C5
    clear hv hst3
    go_wp2_with fail
    rw [HW4.out, HD.out]
    refine C5.out.mono ?_
    rintro e w5 ⟨a5, c5, rfl, hin5, hr5, hf5⟩
    have hcv5 := conv_rd w5 a5 v.length c5 v rfl hin5.rd
    obtain ⟨sv, hsv⟩ : ∃ s, strOf v = s := ⟨_, rfl⟩
    rw [hsv] at hcv5 hOP
    have hBD : ¬ One B D := fun h => by have h : D = B := h; omega
    have hd5 := HD4.out.keep hf5 hBD
    have hg5 := HAT4.out.keep hf5 hBG
    have q0 := hd5.cell 0
    have q1 := hd5.cell 1
    have q2 := hd5.cell 2
    have f2 := hd5.frozen 2
    have r0 := hg5.cell 0
    have r1 := hg5.cell 1
    have r2 := hg5.cell 2
    have y0 := hg5.frozen 0
    have y1 := hg5.frozen 1
    have y2 := hg5.frozen 2
    have hd6 := hd5.set_ 2 (.string sv)
    have f6 : Fr (One D) w5 (w5.setCell ⟨D, 2, none⟩ (.string sv)) := (Fr.refl (One D) w5).setCell (p := ⟨D, 2, none⟩) (fun _ => rfl) _
    have hg6 := hg5.keep f6 (fun h => by have h : G = D := h; omega)
    obtain ⟨hg7, f7⟩ := hg6.put3 (.int .i64 1) (.string sk) (.string sv)
    have hr7 := (hr5.keep f6 (fun h => by have h : B = D := h; omega) (fun k hk h => by have := hS k hk; have h : k = D := h; omega)).keep f7 (fun h => by have h : B = G := h; omega) (fun k hk h => by have := hS k hk; have h : k = G := h; omega)
    have hf7 : Fr (One B) w (((((w5.setCell ⟨D, 2, none⟩ (.string sv)).setCell ⟨G, 0, none⟩ (.int .i64 1)).setCell ⟨G, 1, none⟩ (.string sk)).setCell ⟨G, 2, none⟩ (.string sv))) :=
      ((HF4.out.trans hf5).then_ f6 fun k hk h => by have h : k = D := h; have := HG.out; omega).then_ f7 fun k hk h => by have h : k = G := h; have := HG.out; omega
    have FIN : Hid (OpRet X B S stX w (.returned (.agg #[.int .i64 1, .string sk, .string sv])) (((((w5.setCell ⟨D, 2, none⟩ (.string sv)).setCell ⟨G, 0, none⟩ (.int .i64 1)).setCell ⟨G, 1, none⟩ (.string sk)).setCell ⟨G, 2, none⟩ (.string sv)))) := Lib.hid (by
      rw [← HX.out, ← HSX.out, hOP.out]
      exact ⟨rfl, hr7, hf7⟩)
    have HG7 := Lib.hid hg7
    clear hd5 hg5 hd6 f6 hg6 hg7 f7 hr7 hf7 hr5 hf5 hin5 d0 d1 d2 e0 e1 e2 z0 z1 z2 hcv
    generalize v.length = vn at hcv5 ⊢
    go_wp2_with fail
    refine bodyPost_ret (readOp_results _ _ _ _ _ _ rfl HG7.out) rfl ?_
    exact FIN.out
  · have hc2 : (ci == 1) = false := by simpa using h1
    rw [if_neg (fun h => h1 (HCI.out.1 h))] at hOP
    obtain ⟨hg7, f7⟩ := HAT4.out.put3 (.int .i64 ci) (.string sk) (.string ⟨#[]⟩)
    have hr7 := HR4.out.keep f7 (fun h => by have h : B = G := h; omega) (fun k hk h => by have := hS k hk; have h : k = G := h; omega)
    have hf7 := HF4.out.then_ f7 fun k hk h => by have h : k = G := h; have := HG.out; omega
    rw [← HW4.out] at hg7 hf7 hr7
    have FIN : Hid (OpRet X B S stX w (.returned (.agg #[.int .i64 ci, .string sk, .string ⟨#[]⟩])) _) := Lib.hid (by
      rw [← HX.out, ← HSX.out, hOP.out]
      exact ⟨rfl, hr7, hf7⟩)
    have HG7 := Lib.hid hg7
    clear hg7 f7 hr7 hf7
    go_wp2_with fail
    refine bodyPost_ret (readOp_results _ _ _ _ _ _ rfl HG7.out) rfl ?_
    exact FIN.out
end Go.Proofs.Ytidfjcaajejfoaa
