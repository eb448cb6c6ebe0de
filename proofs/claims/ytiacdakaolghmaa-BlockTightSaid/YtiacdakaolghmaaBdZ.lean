/-
  Layer 12, the program's own: package block keeps what the laws ask of it.
-/
import Derived.Test.YtiacdakaolghmaaBdH
import Derived.Test.YtiacdakaolghmaaBdK
namespace Go.Proofs.Ytiacdakaolghmaa
set_option linter.unusedVariables false
open Go.RowKit

theorem blockOK : BlockOK Bk where
  keep := fun h f hn => h.keep f hn
  build := fun w S a n cap l e h1 h2 h3 h4 h5 h6 h7 => build_c w S a n cap l e h1 h2 h3 h4 h5 h6 h7
  open_ := fun w a n cap b h1 h2 h3 h4 h5 => open_c w a n cap b h1 h2 h3 h4 h5
  len := fun _ _ _ _ _ h => blen_c h
  every := fun _ _ _ _ _ h => bevery_c h
  restarts := fun _ _ _ _ _ h => brestarts_c h
  at_ := fun w x F l e i h hw => by
    unfold atP
    by_cases hi : 0 ≤ i ∧ i < l.length
    · rw [if_pos hi]
      obtain ⟨j, rfl⟩ := Int.eq_ofNat_of_zero_le hi.1
      rw [Int.toNat_natCast]
      exact at_in h j (by omega)
    · rw [if_neg hi]
      exact at_out h i hw hi
  find := fun _ _ _ _ _ key h _ => find_c h key
  shared := fun w s t h1 h2 => bshared_c s t h1 h2 w
end Go.Proofs.Ytiacdakaolghmaa
