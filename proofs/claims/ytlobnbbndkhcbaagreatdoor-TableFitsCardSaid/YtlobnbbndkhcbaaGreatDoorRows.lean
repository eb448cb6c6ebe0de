/-
  NARROWER THAN 'FOR EVERY INPUT', by the rows' own cells (each row's printed sentence says how): TableBack: laid · TableGets: laid · TableOpens: laid · TableFits: laid · TableParts: laid · TableSmalls: laid.
  DERIVED. THE GIVEN ROWS OF THIS SEAT. 6 by the template 'for every input the law returns true; each argument reads behind the call as it read before'; 0 by the template 'total and deterministic' (their statements: YtlobnbbndkhcbaaGreatDoorTotals.lean).
  GIVEN WITH THE SEED: the statements are not yours to turn. If you find one false, say at which input.
  Laid BY PROGRAM, IN A SANDBOX (cutbox-rows.mjs): the forced cells as the released guide's own fill.sh prints them over the translation 2566768f0f4b1bdf… (all of the seat's roots in one cut). By AI agents, Wed Nov 11 2026. No macro, syntax, notation, axiom, sorry.
-/
import Derived.Test.YtlobnbbndkhcbaaGreatDoorChecked
import GoSem.Claim
import GoSem.ClaimJoined
import GoSem.ClaimMapViews
import Derived.JoinedTies
import Derived.KernelRfl
namespace Go.Proofs.YtlobnbbndkhcbaaGreatDoor
/- THE CELL 'sum', in the pinned program and in every row, IS THE sha256 OF THE DUMP (.gsa) THAT YtlobnbbndkhcbaaGreatDoorProg.lean LOADS. Nothing in Lean hashes anything: it is a label: what it is worth is what the hold of that sum in a sandbox is worth. -/
noncomputable def Tryz.pinned : Pinned := { name := "ytlobnbbndkhcbaagreatdoor", sum := "2566768f0f4b1bdf60719db0e883758f21fe59f73a64df4bc190f79048e259b2", checked := Tryz.checked }
namespace Rows
def none {H : Type} : Left H := { results := [], args := [] }

/- WHAT THE LISTED PACKAGE-LEVEL VARIABLES READ AS WHEN THE CALL BEGINS. Each datum BY PROGRAM (the guide's laid-datum.mjs) off the statement by which the dump's own 'gosem.cut.vars' lays the variable. In a bare row this is a premise. The card (YtlobnbbndkhcbaaGreatDoorCards.lean) ties it to the program's text. -/
def laid_tithebarn_sum_nibbles {H : Type} : DataW H := .agg [.lit (.int .u32 0), .lit (.int .u32 274646895), .lit (.int .u32 549293790), .lit (.int .u32 820201905), .lit (.int .u32 1098587580), .lit (.int .u32 1361435347), .lit (.int .u32 1640403810), .lit (.int .u32 1905808397), .lit (.int .u32 2197175160), .lit (.int .u32 2460548119), .lit (.int .u32 2722870694), .lit (.int .u32 2987750089), .lit (.int .u32 3280807620), .lit (.int .u32 3553878443), .lit (.int .u32 3811616794), .lit (.int .u32 4084100981)]

/-- 'tithebarnlaw13.TableBack': WHATEVER THE INPUT: true; the input reads as it did. -/
def tableBackSpec : ChangeSpec := { name := "tableBack", fn := fun _ => fun
  | [d1, d2, d3] => { results := [.lit (.bool true)], args := [d1, d2, d3] }
  | _ => none }
def tableBackRow : OpenClaim := { program := "ytlobnbbndkhcbaagreatdoor", sum := "2566768f0f4b1bdf60719db0e883758f21fe59f73a64df4bc190f79048e259b2", func := "tithebarn/tithebarnlaw13.TableBack", spec := "tableBack", inPlace := ["internal/bytealg.abigen_runtime_cmpstring"], unfollowed := true, recurses := true, named := ["tithebarn/sum.nibbles"], apart := false, laid := [("tithebarn/sum.nibbles", laid_tithebarn_sum_nibbles)] }
def TableBackSaid : Prop := tableBackRow.holds Tryz.pinned (OpenSpec.ofChange tableBackSpec)

/-- ITS FALSE NEIGHBOUR: 'it returns false'. Refute it at one input. -/
def tableBackWrong : ChangeSpec := { name := "tableBack", fn := fun _ => fun
  | [d1, d2, d3] => { results := [.lit (.bool false)], args := [d1, d2, d3] }
  | _ => none }
def TableBackWrongFalsely : Prop := tableBackRow.holds Tryz.pinned (OpenSpec.ofChange tableBackWrong)

/-- 'tithebarnlaw13.TableGets': WHATEVER THE INPUT: true; the input reads as it did. -/
def tableGetsSpec : ChangeSpec := { name := "tableGets", fn := fun _ => fun
  | [d] => { results := [.lit (.bool true)], args := [d] }
  | _ => none }
def tableGetsRow : OpenClaim := { program := "ytlobnbbndkhcbaagreatdoor", sum := "2566768f0f4b1bdf60719db0e883758f21fe59f73a64df4bc190f79048e259b2", func := "tithebarn/tithebarnlaw13.TableGets", spec := "tableGets", inPlace := ["internal/bytealg.abigen_runtime_cmpstring"], unfollowed := true, recurses := true, named := ["tithebarn/sum.nibbles"], apart := false, laid := [("tithebarn/sum.nibbles", laid_tithebarn_sum_nibbles)] }
def TableGetsSaid : Prop := tableGetsRow.holds Tryz.pinned (OpenSpec.ofChange tableGetsSpec)

/-- ITS FALSE NEIGHBOUR: 'it returns false'. Refute it at one input. -/
def tableGetsWrong : ChangeSpec := { name := "tableGets", fn := fun _ => fun
  | [d] => { results := [.lit (.bool false)], args := [d] }
  | _ => none }
def TableGetsWrongFalsely : Prop := tableGetsRow.holds Tryz.pinned (OpenSpec.ofChange tableGetsWrong)

/-- 'tithebarnlaw13.TableOpens': WHATEVER THE INPUT: true; the input reads as it did. -/
def tableOpensSpec : ChangeSpec := { name := "tableOpens", fn := fun _ => fun
  | [d] => { results := [.lit (.bool true)], args := [d] }
  | _ => none }
def tableOpensRow : OpenClaim := { program := "ytlobnbbndkhcbaagreatdoor", sum := "2566768f0f4b1bdf60719db0e883758f21fe59f73a64df4bc190f79048e259b2", func := "tithebarn/tithebarnlaw13.TableOpens", spec := "tableOpens", inPlace := ["internal/bytealg.abigen_runtime_cmpstring"], unfollowed := true, recurses := true, named := ["tithebarn/sum.nibbles"], apart := false, laid := [("tithebarn/sum.nibbles", laid_tithebarn_sum_nibbles)] }
def TableOpensSaid : Prop := tableOpensRow.holds Tryz.pinned (OpenSpec.ofChange tableOpensSpec)

/-- ITS FALSE NEIGHBOUR: 'it returns false'. Refute it at one input. -/
def tableOpensWrong : ChangeSpec := { name := "tableOpens", fn := fun _ => fun
  | [d] => { results := [.lit (.bool false)], args := [d] }
  | _ => none }
def TableOpensWrongFalsely : Prop := tableOpensRow.holds Tryz.pinned (OpenSpec.ofChange tableOpensWrong)

/-- 'tithebarnlaw13.TableFits': WHATEVER THE INPUT: true; the input reads as it did. -/
def tableFitsSpec : ChangeSpec := { name := "tableFits", fn := fun _ => fun
  | [d1, d2, d3] => { results := [.lit (.bool true)], args := [d1, d2, d3] }
  | _ => none }
def tableFitsRow : OpenClaim := { program := "ytlobnbbndkhcbaagreatdoor", sum := "2566768f0f4b1bdf60719db0e883758f21fe59f73a64df4bc190f79048e259b2", func := "tithebarn/tithebarnlaw13.TableFits", spec := "tableFits", inPlace := ["internal/bytealg.abigen_runtime_cmpstring"], unfollowed := true, recurses := true, named := ["tithebarn/sum.nibbles"], apart := false, laid := [("tithebarn/sum.nibbles", laid_tithebarn_sum_nibbles)] }
def TableFitsSaid : Prop := tableFitsRow.holds Tryz.pinned (OpenSpec.ofChange tableFitsSpec)

/-- ITS FALSE NEIGHBOUR: 'it returns false'. Refute it at one input. -/
def tableFitsWrong : ChangeSpec := { name := "tableFits", fn := fun _ => fun
  | [d1, d2, d3] => { results := [.lit (.bool false)], args := [d1, d2, d3] }
  | _ => none }
def TableFitsWrongFalsely : Prop := tableFitsRow.holds Tryz.pinned (OpenSpec.ofChange tableFitsWrong)

/-- 'tithebarnlaw13.TableParts': WHATEVER THE INPUT: true; the input reads as it did. -/
def tablePartsSpec : ChangeSpec := { name := "tableParts", fn := fun _ => fun
  | [d] => { results := [.lit (.bool true)], args := [d] }
  | _ => none }
def tablePartsRow : OpenClaim := { program := "ytlobnbbndkhcbaagreatdoor", sum := "2566768f0f4b1bdf60719db0e883758f21fe59f73a64df4bc190f79048e259b2", func := "tithebarn/tithebarnlaw13.TableParts", spec := "tableParts", inPlace := ["internal/bytealg.abigen_runtime_cmpstring"], unfollowed := true, recurses := true, named := ["tithebarn/sum.nibbles"], apart := false, laid := [("tithebarn/sum.nibbles", laid_tithebarn_sum_nibbles)] }
def TablePartsSaid : Prop := tablePartsRow.holds Tryz.pinned (OpenSpec.ofChange tablePartsSpec)

/-- ITS FALSE NEIGHBOUR: 'it returns false'. Refute it at one input. -/
def tablePartsWrong : ChangeSpec := { name := "tableParts", fn := fun _ => fun
  | [d] => { results := [.lit (.bool false)], args := [d] }
  | _ => none }
def TablePartsWrongFalsely : Prop := tablePartsRow.holds Tryz.pinned (OpenSpec.ofChange tablePartsWrong)

/-- 'tithebarnlaw13.TableSmalls': WHATEVER THE INPUT: true; the input reads as it did. -/
def tableSmallsSpec : ChangeSpec := { name := "tableSmalls", fn := fun _ => fun
  | [d1, d2, d3] => { results := [.lit (.bool true)], args := [d1, d2, d3] }
  | _ => none }
def tableSmallsRow : OpenClaim := { program := "ytlobnbbndkhcbaagreatdoor", sum := "2566768f0f4b1bdf60719db0e883758f21fe59f73a64df4bc190f79048e259b2", func := "tithebarn/tithebarnlaw13.TableSmalls", spec := "tableSmalls", inPlace := ["internal/bytealg.abigen_runtime_cmpstring"], unfollowed := true, recurses := true, named := ["tithebarn/sum.nibbles"], apart := false, laid := [("tithebarn/sum.nibbles", laid_tithebarn_sum_nibbles)] }
def TableSmallsSaid : Prop := tableSmallsRow.holds Tryz.pinned (OpenSpec.ofChange tableSmallsSpec)

/-- ITS FALSE NEIGHBOUR: 'it returns false'. Refute it at one input. -/
def tableSmallsWrong : ChangeSpec := { name := "tableSmalls", fn := fun _ => fun
  | [d1, d2, d3] => { results := [.lit (.bool false)], args := [d1, d2, d3] }
  | _ => none }
def TableSmallsWrongFalsely : Prop := tableSmallsRow.holds Tryz.pinned (OpenSpec.ofChange tableSmallsWrong)

/- THE SECOND FORM. 'bulk': how many values and letters a reading holds, each counted each time it is reached (what is shared counts as often as it is met; a slice's spare places count too). A statement '..UptoSaid' is the law's where the arguments, and the package variables that the reading takes, are together of bulk at most 1048576: NARROWER than '..Said'. Prove '..Said' where nothing that the law and all that it calls make is longer than what came in: it says more and counts as full. Else prove '..UptoSaid'. A law counts once. -/
mutual
def uptoBulk {H : Type} : DataW H → Nat
  | .lit (.string bytes) => bytes.length + 1
  | .lit _ => 1
  | .nil => 1
  | .ptr d => uptoBulk d + 1
  | .slice elems spare => uptoBulkAll elems + uptoBulkAll spare + 1
  | .agg parts => uptoBulkAll parts + 1
  | .iface _ d => uptoBulk d + 1
  | .map entries => uptoBulkEntries entries + 1
  | .held _ => 1
def uptoBulkAll {H : Type} : List (DataW H) → Nat
  | [] => 0
  | d :: r => uptoBulk d + uptoBulkAll r
def uptoBulkEntries {H : Type} : List (Lit × DataW H) → Nat
  | [] => 0
  | x :: r => uptoBulkEntry x + uptoBulkEntries r
def uptoBulkEntry {H : Type} : Lit × DataW H → Nat
  | (.string bytes, d) => bytes.length + uptoBulk d + 1
  | (_, d) => uptoBulk d + 1
 end
def uptoSmall : (H : Type) → List (DataW H) → Bool := fun _ ds => decide (uptoBulkAll ds ≤ 1048576)
def OpenSpec.upto (s : _root_.Go.ChangeSpec) : _root_.Go.OpenSpec := { _root_.Go.OpenSpec.ofChange s with cond := some uptoSmall }

/-- 'tithebarnlaw13.TableBack', WHERE WHAT IT READS IS OF BULK AT MOST 1048576: true; the input reads as it did. -/
def tableBackUptoRow : OpenClaim := { program := "ytlobnbbndkhcbaagreatdoor", sum := "2566768f0f4b1bdf60719db0e883758f21fe59f73a64df4bc190f79048e259b2", func := "tithebarn/tithebarnlaw13.TableBack", spec := "tableBack", inPlace := ["internal/bytealg.abigen_runtime_cmpstring"], unfollowed := true, recurses := true, named := ["tithebarn/sum.nibbles"], apart := false, laid := [("tithebarn/sum.nibbles", laid_tithebarn_sum_nibbles)], narrowed := true }
def TableBackUptoSaid : Prop := tableBackUptoRow.holds Tryz.pinned (OpenSpec.upto tableBackSpec)

/-- 'tithebarnlaw13.TableGets', WHERE WHAT IT READS IS OF BULK AT MOST 1048576: true; the input reads as it did. -/
def tableGetsUptoRow : OpenClaim := { program := "ytlobnbbndkhcbaagreatdoor", sum := "2566768f0f4b1bdf60719db0e883758f21fe59f73a64df4bc190f79048e259b2", func := "tithebarn/tithebarnlaw13.TableGets", spec := "tableGets", inPlace := ["internal/bytealg.abigen_runtime_cmpstring"], unfollowed := true, recurses := true, named := ["tithebarn/sum.nibbles"], apart := false, laid := [("tithebarn/sum.nibbles", laid_tithebarn_sum_nibbles)], narrowed := true }
def TableGetsUptoSaid : Prop := tableGetsUptoRow.holds Tryz.pinned (OpenSpec.upto tableGetsSpec)

/-- 'tithebarnlaw13.TableOpens', WHERE WHAT IT READS IS OF BULK AT MOST 1048576: true; the input reads as it did. -/
def tableOpensUptoRow : OpenClaim := { program := "ytlobnbbndkhcbaagreatdoor", sum := "2566768f0f4b1bdf60719db0e883758f21fe59f73a64df4bc190f79048e259b2", func := "tithebarn/tithebarnlaw13.TableOpens", spec := "tableOpens", inPlace := ["internal/bytealg.abigen_runtime_cmpstring"], unfollowed := true, recurses := true, named := ["tithebarn/sum.nibbles"], apart := false, laid := [("tithebarn/sum.nibbles", laid_tithebarn_sum_nibbles)], narrowed := true }
def TableOpensUptoSaid : Prop := tableOpensUptoRow.holds Tryz.pinned (OpenSpec.upto tableOpensSpec)

/-- 'tithebarnlaw13.TableFits', WHERE WHAT IT READS IS OF BULK AT MOST 1048576: true; the input reads as it did. -/
def tableFitsUptoRow : OpenClaim := { program := "ytlobnbbndkhcbaagreatdoor", sum := "2566768f0f4b1bdf60719db0e883758f21fe59f73a64df4bc190f79048e259b2", func := "tithebarn/tithebarnlaw13.TableFits", spec := "tableFits", inPlace := ["internal/bytealg.abigen_runtime_cmpstring"], unfollowed := true, recurses := true, named := ["tithebarn/sum.nibbles"], apart := false, laid := [("tithebarn/sum.nibbles", laid_tithebarn_sum_nibbles)], narrowed := true }
def TableFitsUptoSaid : Prop := tableFitsUptoRow.holds Tryz.pinned (OpenSpec.upto tableFitsSpec)

/-- 'tithebarnlaw13.TableParts', WHERE WHAT IT READS IS OF BULK AT MOST 1048576: true; the input reads as it did. -/
def tablePartsUptoRow : OpenClaim := { program := "ytlobnbbndkhcbaagreatdoor", sum := "2566768f0f4b1bdf60719db0e883758f21fe59f73a64df4bc190f79048e259b2", func := "tithebarn/tithebarnlaw13.TableParts", spec := "tableParts", inPlace := ["internal/bytealg.abigen_runtime_cmpstring"], unfollowed := true, recurses := true, named := ["tithebarn/sum.nibbles"], apart := false, laid := [("tithebarn/sum.nibbles", laid_tithebarn_sum_nibbles)], narrowed := true }
def TablePartsUptoSaid : Prop := tablePartsUptoRow.holds Tryz.pinned (OpenSpec.upto tablePartsSpec)

/-- 'tithebarnlaw13.TableSmalls', WHERE WHAT IT READS IS OF BULK AT MOST 1048576: true; the input reads as it did. -/
def tableSmallsUptoRow : OpenClaim := { program := "ytlobnbbndkhcbaagreatdoor", sum := "2566768f0f4b1bdf60719db0e883758f21fe59f73a64df4bc190f79048e259b2", func := "tithebarn/tithebarnlaw13.TableSmalls", spec := "tableSmalls", inPlace := ["internal/bytealg.abigen_runtime_cmpstring"], unfollowed := true, recurses := true, named := ["tithebarn/sum.nibbles"], apart := false, laid := [("tithebarn/sum.nibbles", laid_tithebarn_sum_nibbles)], narrowed := true }
def TableSmallsUptoSaid : Prop := tableSmallsUptoRow.holds Tryz.pinned (OpenSpec.upto tableSmallsSpec)

end Rows
end Go.Proofs.YtlobnbbndkhcbaaGreatDoor
