/-
  Layer 7: the program's own device keeps the contracts that the laws ask for.
-/
import Derived.Test.YtkoebafalbcnbaaZoC
import Derived.Test.YtkoebafalbcnbaaZrL
import Derived.Test.YtkoebafalbcnbaaZrF
import Derived.Test.YtkoebafalbcnbaaZrU
import Derived.Test.YtkoebafalbcnbaaZrX
import Derived.Test.YtkoebafalbcnbaaZrN
import Derived.Test.YtkoebafalbcnbaaZrG
import Derived.Test.YtkoebafalbcnbaaZrH
import Derived.Test.YtkoebafalbcnbaaZrE
import Derived.Test.YtkoebafalbcnbaaZrD
namespace Go.Proofs.Ytkoebafalbcnbaa
set_option linter.unusedVariables false
open Go.RowKit

theorem tellZ {f : FuncId} {args : Array Value} {w : World} {v : Value} (h : Calls Try.prog f args w (Is v w)) : Calls Try.prog f args w (TellZ v w) := h.mono fun e w' ⟨h1, h2⟩ => ⟨h1, by rw [← h2]; exact Fr.refl _ _⟩
theorem zoneOK : ZoneOK Dz where
  keep := fun h f hn => h.keep f hn
  low := fun h => h.1
  check := fun z s o w _ _ _ => check_c z s o w
  new := fun z s o w _ _ _ => new_c z s o w
  append := fun h hw hd z _ S a c b hb hc hm hr hS => append_c h hw hd z S a c b hb hc hm hr hS
  read := fun h hw z t n _ wt wn => read_c h hw z t n wt wn
  reset := fun h hw hd z _ => reset_c h hw hd z
  finish := fun h hw hd z _ => finish_c h hw hd z
  flush := fun h hw hd => flush_c h hd hw.n64
  arm := fun h hw n wn => (arm_c h n wn).mono fun e w' h => h.mov
  crash := fun h hw a c ks h1 h2 h3 hi hb => crash_c h hw a c ks h1 h2 h3 hi hb
  state := fun h hw z _ => tellZ (state_c h hw z)
  pointer := fun h hw z _ => tellZ (pointer_c h hw z)
  flushed := fun h hw z _ => tellZ (flushed_c h hw z)
  opened := fun h hw => tellZ (opened_c h hw)
  done := fun h hw => tellZ (done_c h)
  down := fun h hw => tellZ (down_c h)
end Go.Proofs.Ytkoebafalbcnbaa
