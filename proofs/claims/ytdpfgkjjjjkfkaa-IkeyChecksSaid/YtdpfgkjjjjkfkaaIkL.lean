/-
  The walk of IkeyChecks.
-/
import Derived.Test.YtdpfgkjjjjkfkaaIkF
import Derived.Test.YtdpfgkjjjjkfkaaIkE
import Derived.Test.YtdpfgkjjjjkfkaaIkC3
namespace Go.Proofs.Ytdpfgkjjjjkfkaa
set_option linter.unusedVariables false
open Go.RowKit

theorem strOf_of (s : ByteArray) : strOf s.data.toList = s := rfl
theorem box1 (w : World) (t : TypeId) (x : Array Value) : ∃ W, w.alloc (.cells x t) = W ∧ Fr No w W ∧ At W w.heap.size t x := ⟨_, rfl, (Fr.refl No w).alloc _, At.new w t x⟩
set_option maxRecDepth 20000 in
set_option maxHeartbeats 8000000 in
theorem checks_c (s : ByteArray) (q k : Int) (w : World) :
    Calls Try.prog 3 #[.agg #[.string s, .int .i64 q, .int .i64 k]] w (Yes w) := by
  have CA := Lib.hid awake_c
  obtain ⟨W, hW, hf, A1⟩ := box1 w 23 #[.string s, .int .i64 q, .int .i64 k]
  have HW := Lib.hid hW
  have HF := Lib.hid hf
  clear hW hf
  have CS := fun w => small_c s q k w
  by_cases g : (s.size : Int) ≤ 300
  · rw [decide_eq_true g] at CS
    have CS := Lib.hid CS
    by_cases hr : Rt s.size q k
    · obtain ⟨X, hX⟩ : ∃ X, encK s.data.toList q k = X := ⟨_, rfl⟩
      have CB := fun w => bytes_yes s q k w hr
      have CC := Lib.hid (fun w => check_yes s q k w hr)
      have CR := Lib.hid (fun w => right_yes s q k w hr)
      have CE := fun w => refBytes_c s q k w hr
      rw [hX] at CB CE
      have CB := Lib.hid CB
      have CE := Lib.hid CE
      have hl : X.length ≤ 10000 := by
        have h1 := escs_length s.data.toList
        rw [ba_len] at h1
        rw [← hX, encK, List.length_append, List.length_append, tailB_length]
        simp only [List.length_cons, List.length_nil]
        omega
      have HP := Lib.hid (show parseS X = some (s.data.toList, q, k) by rw [← hX]; exact parse_enc _ _ _ (by rw [ba_len]; exact hr))
      clear hX hr g
      go_enter Try.func3, Try.ntmps3
      go_wp2_with fail
      rw [HW.out]
      refine (CS.out _).mono ?_
      rintro e w1 ⟨rfl, hf⟩
      have A1 := A1.keep hf (fun h => h)
      obtain ⟨a10, a11, a12⟩ := A1.key
      have HF := Lib.hid (HF.out.trans hf)
      clear hf
      go_wp2_with fail
      refine (CB.out _).mono ?_
      rintro e w1 ⟨b, cb, rfl, hrow, hf⟩
      have A1 := A1.keep hf (fun h => h)
      obtain ⟨a10, a11, a12⟩ := A1.key
      obtain ⟨b2, cb2, hv, hcb, _, hin⟩ := hrow.form
      simp only [Value.slice.injEq, true_and] at hv
      obtain ⟨rfl, rfl⟩ := hv
      have RB := Lib.hid hin.rd
      clear hrow hin
      have HF := Lib.hid (HF.out.trans hf)
      clear hf
      go_wp2_with fail
      refine (ref_c s q k _).mono ?_
      rintro e w1 ⟨rfl, hf⟩
      have A1 := A1.keep hf (fun h => h)
      obtain ⟨a10, a11, a12⟩ := A1.key
      have RB := Lib.hid (Rd.keep RB.out hf)
      have HF := Lib.hid (HF.out.trans hf)
      clear hf
      go_wp2_with fail
      refine (CR.out _).mono ?_
      rintro e w1 ⟨rfl, hf⟩
      have A1 := A1.keep hf (fun h => h)
      obtain ⟨a10, a11, a12⟩ := A1.key
      have RB := Lib.hid (Rd.keep RB.out hf)
      have HF := Lib.hid (HF.out.trans hf)
      clear hf
      go_wp2_with fail
      refine (CC.out _).mono ?_
      rintro e w1 ⟨rfl, hf⟩
      have A1 := A1.keep hf (fun h => h)
      obtain ⟨a10, a11, a12⟩ := A1.key
      have RB := Lib.hid (Rd.keep RB.out hf)
      have HF := Lib.hid (HF.out.trans hf)
      clear hf
      go_wp2_with fail
      refine (ref_c s q k _).mono ?_
      rintro e w1 ⟨rfl, hf⟩
      have A1 := A1.keep hf (fun h => h)
      obtain ⟨a10, a11, a12⟩ := A1.key
      have RB := Lib.hid (Rd.keep RB.out hf)
      have HF := Lib.hid (HF.out.trans hf)
      clear hf
      go_wp2_with fail
      refine (CE.out _).mono ?_
      rintro e w1 ⟨v, rfl, hrow, hf⟩
      have A1 := A1.keep hf (fun h => h)
      obtain ⟨a10, a11, a12⟩ := A1.key
      have RB := Lib.hid (Rd.keep RB.out hf)
      obtain ⟨b3, cb3, rfl, _, _, hin⟩ := hrow.form
      have RE := Lib.hid hin.rd
      clear hrow hin
      have HF := Lib.hid (HF.out.trans hf)
      clear hf
      go_wp2_with fail
      refine (same_yes rfl rfl RB.out RE.out rfl).mono ?_
      rintro e w1 ⟨rfl, rfl⟩
      go_wp2_with fail
      refine (parse_c _ _ _ X _ rfl hcb (by omega) RB.out).mono ?_
      rintro e w1 ⟨hf, hret⟩
      have A1 := A1.keep hf (fun h => h)
      obtain ⟨a10, a11, a12⟩ := A1.key
      rcases hret with ⟨hn, rfl⟩ | ⟨u, q', k', hs, rfl⟩
      · rw [HP.out] at hn; cases hn
      rw [HP.out] at hs
      simp only [Option.some.injEq, Prod.mk.injEq] at hs
      obtain ⟨rfl, rfl, rfl⟩ := hs
      rw [strOf_of]
      have HF := Lib.hid (HF.out.trans hf)
      clear hf
      rename World => wz
      obtain ⟨W2, hW2, hf, A2⟩ := box1 wz 23 #[.string s, .int .i64 q, .int .i64 k]
      subst hW2
      have A1 := A1.keep hf (fun h => h)
      obtain ⟨a10, a11, a12⟩ := A1.key
      obtain ⟨a20, a21, a22⟩ := A2.key
      have HF := Lib.hid (HF.out.trans hf)
      clear hf
      go_wp2_with fail
      refine (CA.out _).mono ?_
      rintro e w1 ⟨rfl, hf⟩
      have A1 := A1.keep hf (fun h => h)
      obtain ⟨a10, a11, a12⟩ := A1.key
      have HF := Lib.hid (HF.out.trans hf)
      clear hf
      go_wp2_with fail
      go_ret
      exact ⟨rfl, HF.out⟩
    · have CB := Lib.hid (fun w => bytes_no s q k w hr)
      have CC := Lib.hid (fun w => check_no s q k w hr)
      have CR := Lib.hid (fun w => right_no s q k w hr)
      clear hr g
      go_enter Try.func3, Try.ntmps3
      go_wp2_with fail
      rw [HW.out]
      refine (CS.out _).mono ?_
      rintro e w1 ⟨rfl, hf⟩
      have A1 := A1.keep hf (fun h => h)
      obtain ⟨a10, a11, a12⟩ := A1.key
      have HF := Lib.hid (HF.out.trans hf)
      clear hf
      go_wp2_with fail
      refine (CB.out _).mono ?_
      rintro e w1 ⟨rfl, hf⟩
      have A1 := A1.keep hf (fun h => h)
      obtain ⟨a10, a11, a12⟩ := A1.key
      have HF := Lib.hid (HF.out.trans hf)
      clear hf
      go_wp2_with fail
      refine (ref_c s q k _).mono ?_
      rintro e w1 ⟨rfl, hf⟩
      have A1 := A1.keep hf (fun h => h)
      obtain ⟨a10, a11, a12⟩ := A1.key
      have HF := Lib.hid (HF.out.trans hf)
      clear hf
      go_wp2_with fail
      refine (CR.out _).mono ?_
      rintro e w1 ⟨rfl, hf⟩
      have A1 := A1.keep hf (fun h => h)
      obtain ⟨a10, a11, a12⟩ := A1.key
      have HF := Lib.hid (HF.out.trans hf)
      clear hf
      go_wp2_with fail
      refine (CC.out _).mono ?_
      rintro e w1 ⟨rfl, hf⟩
      have A1 := A1.keep hf (fun h => h)
      obtain ⟨a10, a11, a12⟩ := A1.key
      have HF := Lib.hid (HF.out.trans hf)
      clear hf
      go_wp2_with fail
      refine (CA.out _).mono ?_
      rintro e w1 ⟨rfl, hf⟩
      have A1 := A1.keep hf (fun h => h)
      obtain ⟨a10, a11, a12⟩ := A1.key
      have HF := Lib.hid (HF.out.trans hf)
      clear hf
      go_wp2_with fail
      go_ret
      exact ⟨rfl, HF.out⟩
  · rw [decide_eq_false g] at CS
    have CS := Lib.hid CS
    go_enter Try.func3, Try.ntmps3
    go_wp2_with fail
    rw [HW.out]
    refine (CS.out _).mono ?_
    rintro e w1 ⟨rfl, hf⟩
    have A1 := A1.keep hf (fun h => h)
    obtain ⟨a10, a11, a12⟩ := A1.key
    have HF := Lib.hid (HF.out.trans hf)
    clear hf
    go_wp2_with fail
    refine (CA.out _).mono ?_
    rintro e w1 ⟨rfl, hf⟩
    have A1 := A1.keep hf (fun h => h)
    obtain ⟨a10, a11, a12⟩ := A1.key
    have HF := Lib.hid (HF.out.trans hf)
    clear hf
    go_wp2_with fail
    go_ret
    exact ⟨rfl, HF.out⟩
theorem ikeyChecks_walk (w : World) (s : ByteArray) (q k : Int) (_ : s.size ≤ maxLen) (_ : (Lit.int .i64 q).wf = true) (_ : (Lit.int .i64 k).wf = true) :
    Calls Try.prog 3 #[.agg #[.string s, .int .i64 q, .int .i64 k]] w fun e w' => e = .returned (.bool true) ∧ Below w.heap.size w w' := (checks_c s q k w).mono fun _ _ h => h.post
end Go.Proofs.Ytdpfgkjjjjkfkaa
