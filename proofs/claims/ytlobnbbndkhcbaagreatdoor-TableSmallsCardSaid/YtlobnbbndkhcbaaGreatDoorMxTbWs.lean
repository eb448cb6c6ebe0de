/-
  Layer 13: a walk, as its frame takes it.
-/
import Derived.Test.YtlobnbbndkhcbaaGreatDoorMxTbWo
import Derived.Test.YtlobnbbndkhcbaaGreatDoorMxTbS
namespace Go.Proofs.YtlobnbbndkhcbaaGreatDoor
set_option linter.unusedVariables false
open Go.RowKit

section
variable {TB : List Ent → Opt → List UInt8} {NB : List Ent → Opt → Nat} {Tb : World → Prop} {T : World → Nat → (Nat → Prop) → List Ent → Nat → Prop}
theorem tableSmalls_walk (H : TableOK TB NB Tb T) (W : World) (ht : Tb W) (a : Option Addr) (cap : Nat) (l : List Ent) (hc : l.length ≤ cap) (hm : cap ≤ maxLen) (hi : Ents W (fun _ => True) a l) (hwf : ∀ x ∈ l, EntWf x) (o : Opt) (ho : OptWf o) (u : ByteArray) (hu : u.size ≤ maxLen) :
    Calls Tryz.prog 8 #[.slice a l.length cap, optV o, .string u] W fun e W' => e = .returned (.bool true) ∧ Below W.heap.size W W' :=
  (smalls13_c H W ht _ a _ cap l o u rfl hc hm hi hwf ho hu).mono fun _ _ h => plain_post h
end
end Go.Proofs.YtlobnbbndkhcbaaGreatDoor
