/-
  Texts of layer 13 on Fit, one behind the other.
-/
import Derived.Test.YtlobnbbndkhcbaaGreatDoorMyB

/- Layer 13, the program's own: one more pair is measured. -/
namespace Go.Proofs.YtlobnbbndkhcbaaGreatDoor
set_option linter.unusedVariables false
set_option linter.unusedSimpArgs false
open Go.RowKit

/-- A measure behind one more pair. -/
def mAdd (s e k : Nat) (D : List UInt8) (I G : List Pr) (f : Nat) (x : Pr) : MV :=
  if s ≤ f + flN x then mOf e (k + 1) (D ++ fblk e (G ++ [x])) (I ++ [idxP x.key D.length (fblk e (G ++ [x])).length]) [] 0 else mOf e (k + 1) D I (G ++ [x]) (f + flN x)
set_option maxRecDepth 20000 in
set_option maxHeartbeats 1600000 in
theorem madd_c (w : World) (g : Nat) (o : Opt) (s e k : Nat) (D : List UInt8) (I G : List Pr) (f : Nat) (x : Pr) (hat : MAt w g o (mOf e k D I G f)) (hos : o.b = (s : Int)) (hoe : o.e = (e : Int)) (he : 1 ≤ e) (he2 : e ≤ 64) (hs : s ≤ 65536) (hf : f ≤ 1000000) (hk : k ≤ 100000)
    (hD : D.length ≤ 100000000000000) (hI : I.length ≤ 40000) (hG : G.length + 1 ≤ 40000) (hIl : Low 100000 I) (hGl : Low 100000 (G ++ [x])) :
    Calls Tryz.prog 58 #[.pointer (some ⟨g, 0, none⟩), prV x] w (EndRet g o (mAdd s e k D I G f x) w) := by
  have hx := hGl G.length (by simp)
  rw [getD_app2] at hx
  have hlen : (G ++ [x]).length = G.length + 1 := by rw [List.length_append]; rfl
  have hg : g < w.heap.size := (show At w g _ _ from hat).lt
  obtain ⟨W0, hW0⟩ : ∃ W0, w.alloc (.cells #[.string x.key, .string x.val] 74) = W0 := ⟨_, rfl⟩
  have f0 : Fr No w W0 := by rw [← hW0]; exact (Fr.refl No w).alloc _
  have p0 : At W0 w.heap.size 74 #[.string x.key, .string x.val] := by rw [← hW0]; exact At.new _ _ _
  have a0 : At W0 g 112 (mcs o (mOf e k D I G f)) := (show At w g _ _ from hat).keep f0 (fun h => h)
  obtain ⟨W, hW⟩ : ∃ W, (w.setCell ⟨g, 3, none⟩ (.int .i64 ((k : Int) + 1))).alloc (.cells #[.string x.key, .string x.val] 74) = W := ⟨_, rfl⟩
  have m1 : MAt W g o (mOf e (k + 1) D I G f) := by
    rw [← hW]
    exact ((show At w g _ _ from hat).set_ 3 (.int .i64 ((k : Int) + 1))).keep ((Fr.refl No _).alloc _) (fun h => h)
  have p1 : At W w.heap.size 74 #[.string x.key, .string x.val] := by
    rw [← hW]
    have := At.new (w.setCell ⟨g, 3, none⟩ (.int .i64 ((k : Int) + 1))) 74 #[.string x.key, .string x.val]
    simpa using this
  have F1 : Fr (One g) w W := by rw [← hW]; exact (fr_one w g 3 _).alloc _
  have c3 : W0.cell? ⟨g, 3, none⟩ = some (.int .i64 (k : Int)) := a0.cell 3
  have z3 := a0.frozen 3
  have CA := Lib.hid (fun w' (h : MAt w' g o (mOf e (k + 1) D I G f)) => badd_c w' g _ (mcs o (mOf e (k + 1) D I G f)) 9 e G x h (by simp [mcs, hoe]) rfl rfl rfl he he2 (by omega) hGl)
  have CF := Lib.hid (fun w => filled_c x w hx.1 hx.2)
  have HMC : Hid (mcs o (mOf e (k + 1) D I (G ++ [x]) f) = (((mcs o (mOf e (k + 1) D I G f)).setIfInBounds (9 + 2) (.int .i64 (szB e (G ++ [x]) : Int))).setIfInBounds (9 + 1) (.int .i64 ((G.length + 1 : Nat) : Int))).setIfInBounds (9 + 3) (.string x.key)) := Lib.hid (by
    unfold mOf
    rw [hlen, key_step]
    rfl)
  have hfx : flN x ≤ 200000 := by unfold flN; omega
  obtain ⟨y, hy⟩ : ∃ y, f + flN x = y := ⟨_, rfl⟩
  have HVV : Hid (IntKind.i64.wrap ((f : Int) + (flN x : Int)) = (y : Int)) := Lib.hid (by rw [wrapIn _ (by omega) (by omega)]; omega)
  have HY := Lib.hid hy
  have HOS := Lib.hid hos
  have CE := Lib.hid (fun w' (h : MAt w' g o (mOf e (k + 1) D I (G ++ [x]) y)) => mend_c w' g o e (k + 1) D I (G ++ [x]) y h hoe he he2 hD hI (by omega) hIl hGl)
  rw [hlen, key_step] at CE
  clear hy
  have HW0 := Lib.hid hW0
  have HW := Lib.hid hW
  have HM1 := Lib.hid m1
  have HF1 := Lib.hid F1
  have q0 := p1.cell 0
  have q1 := p1.cell 1
  have r0 := p0.cell 0
  have r1 := p0.cell 1
  have HP1 := Lib.hid p1
  simp at q0 q1 r0 r1
  rw [← hW0] at c3 z3 r0 r1
  clear hW0 hW a0 m1 p1 F1 p0
  unfold prV
  go_enter Tryz.func58, Tryz.ntmps58
  go_wp2_with fail
  rw [HW.out]
  go_wp2_with fail
  go_region_with
    (first
      | (go_at_call 91; refine (CA.out _ (HM1.out.keep ((Fr.refl No W).drew) (fun h => h))).mono ?_; rintro e2 w2 ⟨rfl, a2, f2⟩
         have HA2 := Lib.hid a2
         have HF2 := Lib.hid ((HF1.out.drew).then_ f2 fun _ _ h => h)
         have HP2 := Lib.hid ((HP1.out.keep ((Fr.refl No W).drew) (fun h => h)).keep f2 (fun h => by have h : w.heap.size = g := h; omega))
         clear a2 f2))
  all_goals
    have m2 : MAt w2 g o (mOf e (k + 1) D I (G ++ [x]) f) := by
      unfold MAt
      rw [HMC.out]
      exact HA2.out
    have HM2 := Lib.hid m2
    have c13 : w2.cell? ⟨g, 13, none⟩ = some (.int .i64 (f : Int)) := (show At w2 g 112 _ from m2).cell 13
    have z13 := (show At w2 g 112 _ from m2).frozen 13
    have q0 := HP2.out.cell 0
    have q1 := HP2.out.cell 1
    simp at q0 q1
    clear m2 CA
    go_wp2_with fail
  all_goals
    go_region_with
      (first
        | (go_at_call 92; refine (CF.out _).mono ?_; rintro e3 w3 ⟨rfl, f3⟩
           have c13 := ((Fr.refl No w2).drew.trans f3).cell c13 (fun h => h)
           have z13 := (show At w3 g 112 _ from HM2.out.keep ((Fr.refl No w2).drew.trans f3) (fun h => h)).frozen 13
           have HF3 := Lib.hid ((Fr.refl No w2).drew.trans f3)
           clear f3))
  all_goals
    obtain ⟨W4, hW4⟩ : ∃ W4, w3.setCell ⟨g, 13, none⟩ (.int .i64 (IntKind.i64.wrap ((f : Int) + (flN x : Int)))) = W4 := ⟨_, rfl⟩
    rw [hW4]
    rw [HVV.out] at hW4
    have m4 : MAt W4 g o (mOf e (k + 1) D I (G ++ [x]) y) := by
      rw [← hW4]
      exact (show At w3 g _ _ from HM2.out.keep HF3.out (fun h => h)).set_ 13 (.int .i64 (y : Int))
    have HF4 : Hid (Fr (One g) w W4) := Lib.hid (by rw [← hW4]; exact (HF2.out.then_ HF3.out fun _ _ h => h.elim).then_ (fr_one w3 g 13 _) fun _ _ h => h)
    have c0 : W4.cell? ⟨g, 0, none⟩ = some (.int .i64 (s : Int)) := by rw [← HOS.out]; exact (show At W4 g 112 _ from m4).cell 0
    have c13 : W4.cell? ⟨g, 13, none⟩ = some (.int .i64 (y : Int)) := (show At W4 g 112 _ from m4).cell 13
    have HM4 := Lib.hid m4
    clear m4 hW4 CF
    by_cases hc : s ≤ y
    · have d : decide ((y : Int) ≥ (s : Int)) = true := decide_eq_true (by omega)
      go_wp2_with fail
      go_quiet (fail)
      go_wp2_with fail
      refine (CE.out _ (HM4.out.keep ((Fr.refl No W4).drewN _) (fun h => h))).mono ?_
      rintro e5 w5 ⟨rfl, m5, f5⟩
      have HF5 := Lib.hid ((HF4.out.drewN _).then_ f5 fun _ _ h => h)
      have HM5 := Lib.hid m5
      clear m5 f5
      go_wp2_with fail
      go_end0
      refine ⟨rfl, ?_, HF5.out⟩
      unfold mAdd
      rw [HY.out, if_pos hc]
      exact HM5.out
    · have d : decide ((y : Int) ≥ (s : Int)) = false := decide_eq_false (by omega)
      go_wp2_with fail
      go_quiet (fail)
      go_wp2_with fail
      go_end0
      refine ⟨rfl, ?_, HF4.out.drewN _⟩
      unfold mAdd
      rw [HY.out, if_neg hc]
      exact HM4.out.keep ((Fr.refl No W4).drewN _) (fun h => h)
end Go.Proofs.YtlobnbbndkhcbaaGreatDoor
