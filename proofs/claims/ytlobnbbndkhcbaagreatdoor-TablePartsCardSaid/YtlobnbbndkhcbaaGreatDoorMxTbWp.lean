/-
  Layer 13: a walk, as its frame takes it.
-/
import Derived.Test.YtlobnbbndkhcbaaGreatDoorMxTbWo
import Derived.Test.YtlobnbbndkhcbaaGreatDoorMxTbPa
namespace Go.Proofs.YtlobnbbndkhcbaaGreatDoor
set_option linter.unusedVariables false
open Go.RowKit

section
variable {TB : List Ent → Opt → List UInt8} {NB : List Ent → Opt → Nat} {Tb : World → Prop} {T : World → Nat → (Nat → Prop) → List Ent → Nat → Prop}
theorem tableParts_walk (H : TableOK TB NB Tb T) (W : World) (ht : Tb W) (a : Option Addr) (cap : Nat) (l : List Ent) (cut : Int) (u : ByteArray) (at_ : Int) (hc : l.length ≤ cap) (hm : cap ≤ maxLen) (hi : Ents W (fun _ => True) a l) (hwf : ∀ x ∈ l, EntWf x) (hcw : (Lit.int .i64 cut).wf = true) (hu : u.size ≤ maxLen) (hat : (Lit.int .i64 at_).wf = true) :
    Calls Tryz.prog 7 #[.agg #[.slice a l.length cap, .int .i64 cut, .string u, .int .i64 at_]] W fun e W' => e = .returned (.bool true) ∧ Below W.heap.size W W' :=
  (parts13_c H W ht _ a _ cap l cut u at_ rfl hc hm hi hwf hcw hu hat).mono fun _ _ h => plain_post h
end
end Go.Proofs.YtlobnbbndkhcbaaGreatDoor
