/-
  A row of bytes of the call's own: made anew, grown, appended to, as it is used.
-/
import Derived.Test.YtiacdakaolghmaaMem
namespace Go.Proofs.Ytiacdakaolghmaa
set_option linter.unusedVariables false
open Go.RowKit

theorem Row.grow {w w1 w2 : World} {v : Value} {l : List UInt8} (h : Row w1 (Gr No w w1) v l) (f : Fr No w1 w2) : Row w2 (Gr No w w2) v l :=
  (h.keep f fun _ _ h => h).sub fun x _ hx => by
    rcases hx with hx | hx
    · exact hx.elim
    · exact .inr ⟨hx.1, Nat.lt_of_lt_of_le hx.2 f.size⟩
theorem Row.more {w0 w : World} {v : Value} {l : List UInt8} (h : Row w (Gr No w0 w) v l) (f : Fr No w0 w) (a : Option Addr) (m c : Nat) (news : List UInt8) (hm : news.length = m) (hr : Rd w a news) (hb : l.length + m ≤ 140737488355328) :
    ∃ v' w', (Builtin.append_ #[25, 25] 25 #[v, .slice a m c]).run Try.prog w = .ok v' w' ∧ Row w' (Gr No w0 w') v' (l ++ news) ∧ Fr No w0 w' := by
  obtain ⟨v', w', h1, h2, h3⟩ := h.append a m c news hm hr hb
  exact ⟨v', w', h1, h2.join f.size h3.size, f.then_ h3 fun k hk h => Gr.old hk h⟩
theorem Row.more1 {w0 w : World} {v : Value} {l : List UInt8} (h : Row w (Gr No w0 w) v l) (f : Fr No w0 w) (c : UInt8) (z : Int) (hz : (c.toNat : Int) = z) (hb : l.length < 140737488355328) :
    ∃ v' w', (Builtin.append_ #[25, 25] 25 #[v, .slice (some ⟨w.heap.size, 0, none⟩) 1 1]).run Try.prog (w.alloc (.cells #[.int .u8 z] 5)) = .ok v' w' ∧ Row w' (Gr No w0 w') v' (l ++ [c]) ∧ Fr No w0 w' := by
  subst hz
  obtain ⟨v', w', h1, h2, h3⟩ := h.push (fun k hk => hk.elim (fun h => h.elim) fun h => h.2) c hb
  exact ⟨v', w', h1, h2.join f.size h3.size, f.then_ h3 fun k hk h => Gr.old hk h⟩
theorem row_new (w : World) (l : List UInt8) (hl : l.length ≤ maxLen) : Row (w.alloc (.cells (l.map byt).toArray 5)) (Gr No w (w.alloc (.cells (l.map byt).toArray 5))) (.slice (some ⟨w.heap.size, 0, none⟩) l.length l.length) l :=
  ⟨⟨by simp, .inr ⟨w.heap.size, l.length, _, rfl, Nat.zero_le _, heap_alloc_new w _, Nat.le_refl _, hl, by simp, by simp [List.take_of_length_le]⟩⟩, fun k hk => by
    have : w.heap.size = k := Option.some.inj hk
    subst this
    exact .inr ⟨Nat.le_refl _, by simp⟩⟩
end Go.Proofs.Ytiacdakaolghmaa
