/-
  Texts of layer 14 and of what it stands on, one behind the other.
-/
import Derived.Test.YtihahckjcedceaaDoorMg06
import Derived.Test.YtihahckjcedceaaDoorMg08

/- Contract of layer 2's document: Text. -/
namespace Go.Proofs.YtihahckjcedceaaDoor
set_option linter.unusedVariables false
open Go.RowKit

set_option maxHeartbeats 400000 in
theorem refText_c (a : Option Addr) (len cap : Nat) (l : List UInt8) (w : World) (hl : l.length = len) (hm : len ≤ 1000000) (hr : Rd w a l) :
    Calls Tryd.prog 45 #[.slice a len cap] w (NewRow (enc len ++ l) w) := by
  have HL := Lib.hid hl
  have HR := Lib.hid hr
  clear hl hr
  go_enter Tryd.func45, Tryd.ntmps45
  go_wp2_with fail
  refine (refNumber_c len w (by omega)).mono ?_
  rintro e w1 ⟨v, rfl, hrow, hfr⟩
  have h9 := enc_len9 (show len < 9223372036854775808 by omega)
  obtain ⟨v', W, hrun, hrow2, hfr2⟩ := hrow.append a len cap l HL.out ((In.of_rd HR.out).keep hfr (fun _ _ h => h)).rd (by omega)
  have HRUN := Lib.hid hrun
  have HN : Hid (NewRow (enc len ++ l) w (.returned v') W) := Lib.hid ⟨_, rfl, hrow2.join hfr.size hfr2.size, hfr.then_ hfr2 fun k hk h => Gr.old hk h⟩
  clear hrun hrow2 hfr2 hrow hfr HR h9
  go_wp2_with (at_builtin; refine wpList_append_run rfl _ _ 51 rfl rfl rfl HRUN.out ?_)
  go_ret
  exact HN.out
end Go.Proofs.YtihahckjcedceaaDoor

/- Contracts of layer 2's writer: texts. -/
namespace Go.Proofs.YtihahckjcedceaaDoor
set_option linter.unusedVariables false
open Go.RowKit

set_option maxHeartbeats 400000 in
theorem wtext_c (a : Option Addr) (len cap : Nat) (l : List UInt8) (w : World) (B : Nat) (S : Nat → Prop) (p : List UInt8) (bad : Bool) (hw : Wr w B S p bad) (hl : l.length = len) (hm : p.length + 9 + len ≤ 140737488355328)
    (hr : In w (fun k => k ≠ B ∧ ¬ S k) a l) :
    Calls Tryd.prog 68 #[.pointer (some ⟨B, 0, none⟩), .slice a len cap] w (WrRet B S (p ++ (enc len ++ l)) bad w) := by
  have HR := Lib.hid hr
  have HL := Lib.hid hl
  have HW := Lib.hid hw
  clear hr hl hw
  go_enter Tryd.func68, Tryd.ntmps68
  go_wp2_with fail
  refine (wnum_c len w B S p bad HW.out (by omega) (by omega)).mono ?_
  rintro e w1 ⟨rfl, h1, h2⟩
  have h9 := enc_len9 (show len < 9223372036854775808 by omega)
  have hr1 : In w1 (fun k => k ≠ B ∧ ¬ S k) a l := HR.out.keep h2 fun k hk h => h.elim hk.1 hk.2
  have HC := Lib.hid (wraw_c a len cap l w1 B (Gr S w w1) (p ++ enc len) bad h1 HL.out (by rw [List.length_append]; omega) hr1.rd)
  have H2 := Lib.hid h2
  clear h1 h2 h9 hr1
  go_wp2_with fail
  refine (show Calls _ _ _ _ _ from HC.out).mono ?_
  intro e w2 h3
  obtain ⟨rfl, h4⟩ := WrRet.from H2.out h3
  rw [List.append_assoc] at h4
  clear h3
  have H4 := Lib.hid h4
  clear h4
  go_wp2_with fail
  go_ret
  exact ⟨rfl, H4.out⟩

end Go.Proofs.YtihahckjcedceaaDoor
