/-
  Layer 13: a walk, as its frame takes it.
-/
import Derived.Test.YtlobnbbndkhcbaaGreatDoorMxTbWo
import Derived.Test.YtlobnbbndkhcbaaGreatDoorMg25
namespace Go.Proofs.YtlobnbbndkhcbaaGreatDoor
set_option linter.unusedVariables false
open Go.RowKit

section
variable {TB : List Ent → Opt → List UInt8} {NB : List Ent → Opt → Nat} {Tb : World → Prop} {T : World → Nat → (Nat → Prop) → List Ent → Nat → Prop}
theorem tableGets_walk (H : TableOK TB NB Tb T) (W : World) (ht : Tb W) (a : Option Addr) (cap : Nat) (l : List Ent) (o : Opt) (u : ByteArray) (at_ : Int) (hc : l.length ≤ cap) (hm : cap ≤ maxLen) (hi : Ents W (fun _ => True) a l) (hwf : ∀ x ∈ l, EntWf x) (ho : OptWf o) (hu : u.size ≤ maxLen) (hat : (Lit.int .i64 at_).wf = true) :
    Calls Tryz.prog 4 #[.agg #[.slice a l.length cap, .int .i64 o.b, .int .i64 o.e, .int .i64 o.n, .string u, .int .i64 at_]] W fun e W' => e = .returned (.bool true) ∧ Below W.heap.size W W' :=
  (gets13_c H W ht _ a _ cap l o u at_ rfl hc hm hi hwf ho hu hat).mono fun _ _ h => plain_post h
end
end Go.Proofs.YtlobnbbndkhcbaaGreatDoor
