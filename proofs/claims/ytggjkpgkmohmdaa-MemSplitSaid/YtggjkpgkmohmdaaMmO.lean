/-
  Layer 11, the program's own: all that the laws ask of package mem.
-/
import Derived.Test.YtggjkpgkmohmdaaMmD
import Derived.Test.YtggjkpgkmohmdaaMmE
import Derived.Test.YtggjkpgkmohmdaaMmG
namespace Go.Proofs.Ytggjkpgkmohmdaa
set_option linter.unusedVariables false
open Go.RowKit

theorem memOK : MemOK Dm where
  keep := fun h f hn => h.keep_ f hn
  low := fun h => h.low_
  new := tnew_c
  apply := fun w t F m q a n cap l S da dn dc dl hD hm hq hn hnc hcm hops hS how hd1 hd2 hd3 hdi hdF => tapply_c w t F m q a n cap l S da dn dc dl hD hm hq hn hnc hcm hops hS how hd1 hd2 hd3 hdi hdF
  get := fun w t F m u at_ hD _ hu hat => tget_c w t F m u at_ hD hu hat
  entries := fun w t F m hD hl => tentries_c w t F m hD hl
  len := tlen_c
  size := tsize_c
  last := tlast_c
  users := fun w t F m at_ hD hl hat => tusers_c w t F m at_ hD hl hat
end Go.Proofs.Ytggjkpgkmohmdaa
