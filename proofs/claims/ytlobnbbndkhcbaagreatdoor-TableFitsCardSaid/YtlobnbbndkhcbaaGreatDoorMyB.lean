/-
  Texts of layer 13 on Fit, one behind the other.
-/
import Derived.Test.YtlobnbbndkhcbaaGreatDoorMyA

/- Layer 13, the program's own: a measure's block ends. -/
namespace Go.Proofs.YtlobnbbndkhcbaaGreatDoor
set_option linter.unusedVariables false
set_option linter.unusedSimpArgs false
open Go.RowKit

/-- What a measure has behind k pairs: the data and the index of the blocks that ended, the pairs of the block that goes on. -/
def mOf (e k : Nat) (D : List UInt8) (I G : List Pr) (f : Nat) : MV := ⟨k, D.length, I.length, szB 1 I, keyAt I I.length, G.length, szB e G, keyAt G G.length, f⟩
def EndRet (g : Nat) (o : Opt) (m : MV) (w : World) (e : Ending) (w' : World) : Prop := e = .returned (.tuple #[]) ∧ MAt w' g o m ∧ Fr (One g) w w'
set_option maxRecDepth 20000 in
set_option maxHeartbeats 1600000 in
theorem mend_c (w : World) (g : Nat) (o : Opt) (e k : Nat) (D : List UInt8) (I G : List Pr) (f : Nat) (hat : MAt w g o (mOf e k D I G f)) (hoe : o.e = (e : Int)) (he : 1 ≤ e) (he2 : e ≤ 64)
    (hD : D.length ≤ 100000000000000) (hI : I.length ≤ 40000) (hG : G.length ≤ 40000) (hIl : Low 100000 I) (hGl : Low 100000 G) :
    Calls Tryz.prog 93 #[.pointer (some ⟨g, 0, none⟩)] w (EndRet g o (mOf e k (D ++ fblk e G) (I ++ [idxP (keyAt G G.length) D.length (fblk e G).length]) [] 0) w) := by
  have hsz := szB_le e G 100000 (by omega) hGl
  have hszb : szB e G ≤ 10000000000 := by
    have : G.length * (31 + 2 * 100000) ≤ 40000 * (31 + 2 * 100000) := Nat.mul_le_mul_right _ hG
    omega
  have hfl := fblk_sz e G
  have hfb : (fblk e G).length ≤ 20000000000 := by rw [hfl]; have := sizeL_le (n := szB e G + 4 + 1) (by omega); omega
  have hkz : (keyAt G G.length).size ≤ 100000 := by
    unfold keyAt
    split
    · exact Nat.zero_le _
    · exact (hGl (G.length - 1) (by omega)).1
  have hlow2 : Low 100000 (I ++ [idxP (keyAt G G.length) D.length (fblk e G).length]) := fun i hi => by
    rcases Nat.lt_or_ge i I.length with h | h
    · rw [getD_app1 I _ h]; exact hIl i h
    · obtain rfl : i = I.length := by rw [List.length_append, List.length_singleton] at hi; omega
      rw [getD_app2]
      have h1 := enc_len9 (show D.length < 9223372036854775808 by omega)
      have h2 := enc_len9 (show (fblk e G).length < 9223372036854775808 by omega)
      refine ⟨hkz, ?_⟩
      show (strOf _).size ≤ 100000
      rw [size_strT, List.length_append]
      omega
  obtain ⟨F, hF⟩ : ∃ F, (fblk e G).length = F := ⟨_, rfl⟩
  rw [hF] at hfl hfb hlow2 ⊢
  have CF := Lib.hid (bframe_c w g 9 (szB e G) (by have := (show At w g _ _ from hat).cell (9 + 2); simpa [mcs, mOf] using this) hszb)
  rw [← hfl] at CF
  clear hfl hsz hszb
  have CI := Lib.hid (fun w => idx_c (keyAt G G.length) D.length F w (by omega) (by omega))
  have CA := Lib.hid (fun w' (h : MAt w' g o (mOf e k D I G f)) => badd_c w' g _ (mcs o (mOf e k D I G f)) 5 1 I (idxP (keyAt G G.length) D.length F) h rfl rfl rfl rfl (by omega) (by omega) hI hlow2)
  have HAT := Lib.hid hat
  have hat' : At w g 112 (mcs o (mOf e k D I G f)) := hat
  have c4 := hat'.cell 4
  have c12 := hat'.cell 12
  simp [mcs, mOf] at c4 c12
  have HEND : Hid (mcs o (mOf e k (D ++ fblk e G) (I ++ [idxP (keyAt G G.length) D.length F]) [] 0) = ((((((mcs o ⟨k, D.length, I.length + 1, szB 1 (I ++ [idxP (keyAt G G.length) D.length F]), keyAt G G.length, G.length, szB e G, keyAt G G.length, f⟩).setIfInBounds 4 (.int .i64 ((D.length : Int) + (F : Int)))).setIfInBounds 9 (.int .i64 (e : Int))).setIfInBounds 10 (.int .i64 0)).setIfInBounds 11 (.int .i64 0)).setIfInBounds 12 (.string ⟨#[]⟩)).setIfInBounds 13 (.int .i64 0)) := Lib.hid (by
    unfold mOf
    rw [show (I ++ [idxP (keyAt G G.length) D.length F]).length = I.length + 1 by rw [List.length_append]; rfl, key_step, List.length_append, hF, szB_nil]
    simp [mcs, hoe, keyAt, idxP, emp])
  clear hF hat hat' hlow2
  go_enter Tryz.func93, Tryz.ntmps93
  go_wp2_with fail
  refine (show Calls _ _ _ _ _ from CF.out).mono ?_
  rintro e1 w1 ⟨rfl, rfl⟩
  go_wp2_with fail
  go_region_with
    (first
      | (go_at_call 69; refine (CI.out _).mono ?_; rintro e2 w2 ⟨rfl, f2⟩
         have HM := Lib.hid (And.intro (show MAt w2 g o _ from HAT.out.keep ((Fr.refl No w).drew.trans f2) (fun h => h)) ((Fr.refl No w).drew.trans f2))
         clear f2)
      | (go_at_call 91; refine (CA.out _ HM.out.1).mono ?_; rintro e3 w3 ⟨rfl, a3, f3⟩))
  all_goals
    have M3 : MAt w3 g o ⟨k, D.length, I.length + 1, szB 1 (I ++ [idxP (keyAt G G.length) D.length F]), keyAt G G.length, G.length, szB e G, keyAt G G.length, f⟩ := a3
    have F3 := Lib.hid ((HM.out.2.sub (T := One g) fun _ _ h => h.elim).then_ f3 fun _ _ h => h)
    have hat' : At w3 g 112 (mcs o ⟨k, D.length, I.length + 1, szB 1 (I ++ [idxP (keyAt G G.length) D.length F]), keyAt G G.length, G.length, szB e G, keyAt G G.length, f⟩) := M3
    have M3 := Lib.hid M3
    have c0 := hat'.cell 0
    have c1 := hat'.cell 1
    have c2 := hat'.cell 2
    have c3 := hat'.cell 3
    have c4 := hat'.cell 4
    have c5 := hat'.cell 5
    have c6 := hat'.cell 6
    have c7 := hat'.cell 7
    have c8 := hat'.cell 8
    have c9 := hat'.cell 9
    have c10 := hat'.cell 10
    have c11 := hat'.cell 11
    have c12 := hat'.cell 12
    have c13 := hat'.cell 13
    have z4 := hat'.frozen 4
    have z9 := hat'.frozen 9
    have z10 := hat'.frozen 10
    have z11 := hat'.frozen 11
    have z12 := hat'.frozen 12
    have z13 := hat'.frozen 13
    simp [mcs] at c0 c1 c2 c3 c4 c5 c6 c7 c8 c9 c10 c11 c12 c13
    clear a3 f3 hat' CI CA CF HAT
    go_wp2_with fail
  all_goals
    go_end0
    refine ⟨rfl, ?_, ((((((F3.out.then_ (fr_one _ g 4 _) fun _ _ h => h).then_ (fr_one _ g 9 _) fun _ _ h => h).then_ (fr_one _ g 10 _) fun _ _ h => h).then_ (fr_one _ g 11 _) fun _ _ h => h).then_ (fr_one _ g 12 _) fun _ _ h => h).then_ (fr_one _ g 13 _) fun _ _ h => h)⟩
    have A := ((((((show At w3 g _ _ from M3.out).set_ 4 (.int .i64 ((D.length : Int) + (F : Int)))).set_ 9 (.int .i64 (e : Int))).set_ 10 (.int .i64 0)).set_ 11 (.int .i64 0)).set_ 12 (.string ⟨#[]⟩)).set_ 13 (.int .i64 0)
    unfold MAt
    rw [HEND.out]
    exact A
end Go.Proofs.YtlobnbbndkhcbaaGreatDoor
