/-
  Layer 5: the laws' awake; the walk of SkipDraws.
-/
import Derived.Test.YtdnaebbfbkdjoaaSkXI
import Derived.Test.YtdnaebbfbkdjoaaSkE
namespace Go.Proofs.Ytdnaebbfbkdjoaa
set_option linter.unusedVariables false
open Go.RowKit

/-- Behind a step that turns the call's own blocks alone. -/
theorem Fr.own {S : Nat → Prop} {a b c : World} (h : Fr No a b) (hS : ∀ z, S z → a.heap.size ≤ z) (k : Fr S b c) : Fr No a c :=
  h.then_ k fun x hx hs => absurd (hS x hs) (by omega)
def Yes (w : World) (e : Ending) (w' : World) : Prop := e = .returned (.bool true) ∧ Fr No w w'
theorem hN15 : hN 15 = 3 := by decide
open KI in
set_option maxRecDepth 20000 in
set_option maxHeartbeats 2000000 in
theorem awake_c (w : World) : Calls Try.prog 10 #[] w (Yes w) := by
  have HC := Lib.hid (new_c w)
  go_enter Try.func10, Try.ntmps10
  go_wp2_with fail
  refine HC.out.mono ?_
  rintro e w1 ⟨⟨b, hb, hs, rfl, L1, low⟩, f1⟩
  have HL1 := Lib.hid L1
  have HLO := Lib.hid low
  have HF1 := Lib.hid f1
  have HP := Lib.hid (put_c b hb hs [] 5 50 3 w1 L1 (by simp))
  clear L1 low f1
  go_wp2_with fail
  refine HP.out.mono ?_
  rintro e w2 ⟨⟨ns, L2, on, hps⟩, f2⟩
  rcases hps with ⟨h, _⟩ | ⟨_, x, hx, _⟩ | ⟨_, _, nd, hk, hv, hh, rfl, rfl⟩
  · exact absurd h (by omega)
  · cases hx
  have HL2 := Lib.hid L2
  have HF2 := Lib.hid (HF1.out.own HLO.out f2)
  have hh : nd.h = 3 := by omega
  obtain ⟨k, v, g⟩ : Hid (nd.k = 5) ∧ Hid (nd.v = 50) ∧ Hid (nd.h = 3) := ⟨Lib.hid hk, Lib.hid hv, Lib.hid hh⟩
  have HT := Lib.hid (ceilT_c b hb hs _ 4 w2 L2)
  have e1 : tellV (ceilN ltI (insN ltI nd []) 4) = .tuple #[.int .i64 5, .int .i64 50, .bool true] := by
    have : ceilN ltI (insN ltI nd []) 4 = some nd := by
      show List.find? _ [nd] = _
      rw [List.find?_cons]
      simp [ltI, hk]
    rw [this]
    show Value.tuple #[(Value.int .i64) nd.k, (Value.int .i64) nd.v, .bool true] = _
    rw [hk, hv]
  rw [e1] at HT
  clear L2 f2 hk hv hh e1 on
  go_wp2_with fail
  refine HT.out.mono ?_
  rintro e w3 ⟨rfl, f3⟩
  have HL3 := Lib.hid (HL2.out.keep f3 (fun _ _ h => h))
  have HF3 := Lib.hid (HF2.out.trans f3)
  have HN := Lib.hid (len_c HL3.out)
  have HH := Lib.hid (height_c b hb hs _ 5 w3 HL3.out)
  have e2 : heightR (getN (insN ltI nd []) 5) = .int .i64 3 := by
    have : getN (insN ltI nd []) 5 = some nd := by
      show List.find? _ [nd] = _
      rw [List.find?_cons]
      simp [k.out]
    rw [this]
    show Value.int .i64 (nd.h : Int) = _
    rw [g.out]
    rfl
  rw [e2] at HH
  rw [show ((insN ltI nd []).length : Int) = 1 from rfl] at HN
  clear f3 e2
  go_wp2_with fail
  refine HN.out.mono ?_
  rintro e w4 ⟨rfl, rfl⟩
  go_wp2_with fail
  refine HH.out.mono ?_
  rintro e w4 ⟨rfl, f4⟩
  have HF4 := Lib.hid (HF3.out.trans f4)
  have H0 := Lib.hid (height0_c 15 w4 (by omega) (by omega))
  rw [hN15] at H0
  clear f4
  go_wp2_with fail
  refine H0.out.mono ?_
  rintro e w5 ⟨rfl, rfl⟩
  go_wp2_with fail
  go_ret
  exact ⟨rfl, HF4.out⟩
set_option maxRecDepth 20000 in
set_option maxHeartbeats 2000000 in
theorem skipDraws_walk (W : World) (d : Int) (wf : (Lit.int .i64 d).wf = true) :
    Calls Try.prog 5 #[.int .i64 d] W fun e w' => e = .returned (.bool true) ∧ Below W.heap.size W w' := by
  have hw : -9223372036854775808 ≤ d ∧ d ≤ 9223372036854775807 := by
    simp [Lit.wf, IntKind.min, IntKind.max, IntKind.signed, IntKind.bits] at wf
    omega
  have H0 := Lib.hid (height0_c d W hw.1 hw.2)
  have H1 := Lib.hid (refHeight_c d W hw.1 hw.2)
  have HA := Lib.hid (awake_c W)
  have hle := hFrom_le d 11 1
  have hle : 1 ≤ hN d ∧ hN d ≤ 12 := by unfold hN; omega
  obtain ⟨h, hh⟩ : ∃ h, hN d = h := ⟨_, rfl⟩
  rw [hh] at H0 H1 hle
  clear hh wf hw
  have d1 : decide ((1 : Int) ≤ (h : Int)) = true := by rw [decide_eq_true_eq]; omega
  have d2 : decide ((h : Int) ≤ 12) = true := by rw [decide_eq_true_eq]; omega
  clear hle
  go_enter Try.func5, Try.ntmps5
  go_wp2_with fail
  refine H0.out.mono ?_
  rintro e w1 ⟨rfl, rfl⟩
  go_wp2_with fail
  refine H1.out.mono ?_
  rintro e w1 ⟨rfl, rfl⟩
  go_wp2_with fail
  refine HA.out.mono ?_
  rintro e w2 ⟨rfl, f2⟩
  go_wp2_with fail
  go_ret
  exact ⟨rfl, f2.below (Nat.le_refl _) (fun _ h => h.elim)⟩
end Go.Proofs.Ytdnaebbfbkdjoaa
