/-
  Layer 10: package batch meets what the laws ask of it.
-/
import Derived.Test.YtidfjcaajejfoaaBcC
import Derived.Test.YtidfjcaajejfoaaBcD
import Derived.Test.YtidfjcaajejfoaaBcF
import Derived.Test.YtidfjcaajejfoaaBcH
import Derived.Test.YtidfjcaajejfoaaBaCh
namespace Go.Proofs.Ytidfjcaajejfoaa
set_option linter.unusedVariables false

theorem batchOK : BatchOK where
  ocheck := fun x w h => ocheck_c x w h
  check := fun q a cap l w S hq hc hm hi hwf => bcheck_c q a cap l w S hq hc hm hi hwf
  bytes := fun q a cap l w S hq hc hm hi hwf => bbytes_c q a cap l w S hq hc hm hi hwf
  size := fun q a cap l w S hq hc hm hi hwf => bsize_c q a cap l w S hq hc hm hi hwf
  last := fun q a cap l w S hq hc hm hi hwf => blast_c q a cap l w S hq hc hm hi hwf
  keys := fun q a cap l w S hq hc hm hi hwf => bkeysOwn_c q a cap l w S hq hc hm hi hwf
  find := fun q a cap l key w S hq hc hm hi hwf => bfind_c q a cap l key w S (by unfold maxLen at hm; omega) hi
  parse := fun a cap n b w hn hc hm hs hr => bparse_c a cap n b w hn hc hm hs hr
end Go.Proofs.Ytidfjcaajejfoaa
