/-
  The walk of IkeyParses.
-/
import Derived.Test.YtdpfgkjjjjkfkaaIkF
import Derived.Test.YtdpfgkjjjjkfkaaIkE
import Derived.Test.YtdpfgkjjjjkfkaaIkL
namespace Go.Proofs.Ytdpfgkjjjjkfkaa
set_option linter.unusedVariables false
open Go.RowKit

set_option maxRecDepth 20000 in
set_option maxHeartbeats 8000000 in
theorem parses_c (a : Option Addr) (cap : Nat) (l : List UInt8) (w : World) (hc : l.length ≤ cap) (hm : cap ≤ maxLen) (hr : Rd w a l) :
    Calls Try.prog 4 #[.slice a l.length cap] w (Yes w) := by
  have CA := Lib.hid awake_c
  unfold maxLen at hm
  have RB := Lib.hid hr
  have HF := Lib.hid (Fr.refl No w)
  clear hr
  by_cases g : l.length ≤ 1000
  · have CP := Lib.hid (fun w (hr : Rd w a l) => parse_c a l.length cap l w rfl hc (by omega) hr)
    go_enter Try.func4, Try.ntmps4
    go_wp2_with fail
    refine (CP.out _ RB.out).mono ?_
    rintro e w1 ⟨hf, hret⟩
    have RB := Lib.hid (Rd.keep RB.out hf)
    have HF := Lib.hid (HF.out.trans hf)
    clear hf
    rcases hret with ⟨hn, rfl⟩ | ⟨u, q, k, hs, rfl⟩
    · obtain ⟨W, hW, hf, A1⟩ := box1 w1 23 #[.string ⟨#[]⟩, .int .i64 0, .int .i64 0]
      subst hW
      obtain ⟨a10, a11, a12⟩ := A1.key
      have HF := Lib.hid (HF.out.trans hf)
      clear hf
      go_wp2_with fail
      refine (CA.out _).mono ?_
      rintro e w1 ⟨rfl, hf⟩
      have A1 := A1.keep hf (fun h => h)
      obtain ⟨a10, a11, a12⟩ := A1.key
      have HF := Lib.hid (HF.out.trans hf)
      clear hf
      go_wp2_with fail
      go_ret
      exact ⟨rfl, HF.out⟩
    · obtain ⟨hr, hX⟩ := parse_some l u q k hs
      have hr : Rt (strOf u).size q k := by rw [show (strOf u).size = u.length from size_of_list u]; exact hr
      have CB := fun w => bytes_yes (strOf u) q k w hr
      have CC := fun w => check_yes (strOf u) q k w hr
      rw [show (strOf u).data.toList = u from rfl, hX] at CB
      clear hX hs hr
      generalize strOf u = su at *
      have CB := Lib.hid CB
      have CC := Lib.hid CC
      obtain ⟨W, hW, hf, A1⟩ := box1 w1 23 #[.string su, .int .i64 q, .int .i64 k]
      subst hW
      have RB := Lib.hid (Rd.keep RB.out hf)
      obtain ⟨a10, a11, a12⟩ := A1.key
      have HF := Lib.hid (HF.out.trans hf)
      clear hf
      go_wp2_with fail
      refine (CB.out _).mono ?_
      rintro e w1 ⟨b, cb, rfl, hrow, hf⟩
      have A1 := A1.keep hf (fun h => h)
      obtain ⟨a10, a11, a12⟩ := A1.key
      have RB := Lib.hid (Rd.keep RB.out hf)
      obtain ⟨b2, cb2, hv, hcb, _, hin⟩ := hrow.form
      simp only [Value.slice.injEq, true_and] at hv
      obtain ⟨rfl, rfl⟩ := hv
      have RE := Lib.hid hin.rd
      clear hrow hin
      have HF := Lib.hid (HF.out.trans hf)
      clear hf
      go_wp2_with fail
      refine (CC.out _).mono ?_
      rintro e w1 ⟨rfl, hf⟩
      have A1 := A1.keep hf (fun h => h)
      obtain ⟨a10, a11, a12⟩ := A1.key
      have RB := Lib.hid (Rd.keep RB.out hf)
      have RE := Lib.hid (Rd.keep RE.out hf)
      have HF := Lib.hid (HF.out.trans hf)
      clear hf
      go_wp2_with fail
      refine (same_yes rfl rfl RB.out RE.out rfl).mono ?_
      rintro e w1 ⟨rfl, rfl⟩
      go_wp2_with fail
      refine (CA.out _).mono ?_
      rintro e w1 ⟨rfl, hf⟩
      have A1 := A1.keep hf (fun h => h)
      obtain ⟨a10, a11, a12⟩ := A1.key
      have HF := Lib.hid (HF.out.trans hf)
      clear hf
      go_wp2_with fail
      go_ret
      exact ⟨rfl, HF.out⟩
  · clear RB
    go_enter Try.func4, Try.ntmps4
    go_wp2_with fail
    refine (CA.out _).mono ?_
    rintro e w1 ⟨rfl, hf⟩
    go_wp2_with fail
    go_ret
    exact ⟨rfl, hf⟩
theorem ikeyParses_walk (w : World) (a : Option Addr) (ca : Nat) (la : List UInt8) (h1 : la.length ≤ ca) (h2 : ca ≤ maxLen) (ra : Rd w a la) :
    Calls Try.prog 4 #[.slice a la.length ca] w fun e w' => e = .returned (.bool true) ∧ Below w.heap.size w w' := (parses_c a ca la w h1 h2 ra).mono fun _ _ h => h.post
end Go.Proofs.Ytdpfgkjjjjkfkaa
