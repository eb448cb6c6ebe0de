/-
  Layer 10, the program's own: Last.
-/
import Derived.Test.YtggjkpgkmohmdaaBcA
import Derived.Test.YtggjkpgkmohmdaaBaL
namespace Go.Proofs.Ytggjkpgkmohmdaa
set_option linter.unusedVariables false
open Go.RowKit

set_option maxHeartbeats 800000 in
theorem blast_c (q : Int) (a : Option Addr) (cap : Nat) (l : List Op10) (w : World) (S : Nat → Prop) (hq : (Lit.int .i64 q).wf = true) (hc : l.length ≤ cap) (hm : cap ≤ maxLen) (hi : Ops w S a l) (hwf : ∀ x ∈ l, OpWf x) :
    Calls Try.prog 37 #[.agg #[.int .i64 q, .slice a l.length cap]] w (Ask (.int .i64 (lastO q l)) w) := by
  obtain ⟨W, hW, hfW, m0, m1⟩ := box_batch w q (.slice a l.length cap)
  have HC := Lib.hid (bcheck_c q a cap l W S hq hc hm (hi.keep hfW fun _ _ h => h) hwf)
  have HW := Lib.hid hW
  have HFW := Lib.hid hfW
  have HP := Lib.hid (fun (h : allO q l = true) => allO_parts h)
  obtain ⟨n, hn⟩ : ∃ n, l.length = n := ⟨_, rfl⟩
  have HN := Lib.hid hn
  rw [hn] at HC HP m1 ⊢
  rw [hn] at HW
  clear hi hwf hW hfW hc hm hn
  cases hall : allO q l with
  | false =>
    have hl : lastO q l = 0 := by unfold lastO; rw [hall]; rfl
    have hE : errO (allO q l) = .int .i64 100 := by rw [hall]; rfl
    rw [hE] at HC
    rw [hl]
    clear hl hE
    go_enter Try.func37, Try.ntmps37
    go_wp2_with fail
    rw [HW.out]
    go_wp2_with fail
    refine HC.out.mono ?_
    rintro e w1 ⟨rfl, hf1⟩
    have HF1 := Lib.hid hf1
    go_wp2_with fail
    go_ret
    exact ⟨rfl, HFW.out.trans HF1.out⟩
  | true =>
    obtain ⟨p1, p2, p3, p4, p5⟩ := HP.out hall
    have hl : lastO q l = q + (n : Int) - 1 := by unfold lastO; rw [hall, if_pos rfl, HN.out]
    have hE : errO (allO q l) = .int .i64 0 := by rw [hall]; rfl
    rw [hE] at HC
    rw [hl]
    clear hl hE p5 HP
    go_enter Try.func37, Try.ntmps37
    go_wp2_with fail
    rw [HW.out]
    go_wp2_with fail
    refine HC.out.mono ?_
    rintro e w1 ⟨rfl, hf1⟩
    have m0 := hf1.cell m0 (fun h => h)
    have m1 := hf1.cell m1 (fun h => h)
    have HF1 := Lib.hid hf1
    go_wp2_with fail
    go_ret
    exact ⟨rfl, HFW.out.trans HF1.out⟩
end Go.Proofs.Ytggjkpgkmohmdaa
