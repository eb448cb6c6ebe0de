/-
  Layer 7: the program's own device keeps the contracts that a later layer's laws ask for (written by zo_ok.py).
-/
import Derived.Test.YtmkadpjacidlkaaZo8
import Derived.Test.YtmkadpjacidlkaaZrN
import Derived.Test.YtmkadpjacidlkaaZrL
import Derived.Test.YtmkadpjacidlkaaZrR
import Derived.Test.YtmkadpjacidlkaaZrM
import Derived.Test.YtmkadpjacidlkaaZrX
import Derived.Test.YtmkadpjacidlkaaZrB
import Derived.Test.YtmkadpjacidlkaaZrJ
namespace Go.Proofs.Ytmkadpjacidlkaa
set_option linter.unusedVariables false
open Go.RowKit

theorem tellZ {f : FuncId} {args : Array Value} {w : World} {v : Value} (h : Calls Try.prog f args w (Is v w)) : Calls Try.prog f args w (TellZ v w) := h.mono fun e w' ⟨h1, h2⟩ => ⟨h1, by rw [← h2]; exact Fr.refl _ _⟩
theorem zoneOK : ZoneOK Dz where
  keep := fun h f hn => h.keep f hn
  low := fun h => h.1
  new := fun z s o w _ _ _ => new_c z s o w
  append := fun h hw hd z _ S a c b hb hc hm hr hS => append_c h hw hd z S a c b hb hc hm hr hS
  reset := fun h hw hd z _ => reset_c h hw hd z
  arm := fun h hw n wn => (arm_c h n wn).mono fun e w' h => h.mov
  crash := fun h hw a c ks h1 h2 h3 hi hb => crash_c h hw a c ks h2 h3 hi hb
  state := fun h hw z _ => tellZ (state_c h hw z)
  down := fun h hw => tellZ (down_c h)
end Go.Proofs.Ytmkadpjacidlkaa
