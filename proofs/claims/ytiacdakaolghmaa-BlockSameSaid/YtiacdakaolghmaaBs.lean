/-
  A text's bytes. No program is named.
-/
import Derived.Test.YtiacdakaolghmaaFrame
namespace Go.Proofs.Ytiacdakaolghmaa

/-- A text's bytes. -/
def bs (s : ByteArray) : List UInt8 := s.data.toList
theorem bs_length (s : ByteArray) : (bs s).length = s.size := by unfold bs; rw [Array.length_toList]; rfl
end Go.Proofs.Ytiacdakaolghmaa
