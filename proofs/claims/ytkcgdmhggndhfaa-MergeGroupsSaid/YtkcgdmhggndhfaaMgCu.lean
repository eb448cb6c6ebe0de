/-
  Layer 6: what the laws ask of the program's cursor ('CurOK': shown elsewhere).
-/
import Derived.Test.YtkcgdmhggndhfaaMgGr
import Derived.Deep.RegionHeld3
import Derived.Test.YtkcgdmhggndhfaaHeld
namespace Go.Proofs.Ytkcgdmhggndhfaa
set_option linter.unusedVariables false
open Go.RowKit

def nextI (n : Nat) (t : Int) : Int := if t < 0 then -1 else if t + 1 < (n : Int) then t + 1 else -1
def prevI (t : Int) : Int := if t < 0 then -1 else t - 1
def firstI (n : Nat) : Int := if n = 0 then -1 else 0
def seekI (l : List P2) (k : Int) : Int := if ceilP l k < l.length then (ceilP l k : Int) else -1
def itemI (l : List P2) (t : Int) : P2 := if 0 ≤ t then l.getD t.toNat p20 else (0, 0)
/-- What a call that moves a cursor does: the cursor reads within X, turns Y alone. -/
def MoveRet (C : World → Nat → (Nat → Prop) → (Nat → Prop) → List P2 → Int → Prop) (c : Nat) (X Y : Nat → Prop) (l : List P2) (t : Int) (w : World) (e : Ending) (w' : World) : Prop :=
  e = .returned (.bool (decide (0 ≤ t))) ∧ ∃ X' Y', C w' c X' Y' l t ∧ (∀ k, X' k → X k ∨ (w.heap.size ≤ k ∧ k < w'.heap.size)) ∧ (∀ k, Y' k → Y k ∨ (w.heap.size ≤ k ∧ k < w'.heap.size)) ∧ Fr Y w w'
structure CurOK (C : World → Nat → (Nat → Prop) → (Nat → Prop) → List P2 → Int → Prop) : Prop where
  keep : ∀ {w w' : World} {c : Nat} {X Y T : Nat → Prop} {l : List P2} {t : Int}, C w c X Y l t → Fr T w w' → (∀ k, X k → ¬ T k) → C w' c X Y l t
  low : ∀ {w : World} {c : Nat} {X Y : Nat → Prop} {l : List P2} {t : Int}, C w c X Y l t → ∀ k, (X k ∨ Y k) → k < w.heap.size
  new : ∀ (S : Nat → Prop) (a : Option Addr) (cap : Nat) (rs : List Rn) (w : World), rs.length ≤ 10 → (∀ x ∈ rs, x.l.length ≤ 100) → rs.length ≤ cap → cap ≤ maxLen → InR w S a rs →
    Calls Try.prog 22 #[.slice a rs.length cap] w fun e w' => Fr No w w' ∧ (runsR rs = false → e = .returned (.tuple #[.pointer none, .int .i64 31])) ∧
      (runsR rs = true → ∃ c X Y, e = .returned (.tuple #[.pointer (some ⟨c, 0, none⟩), .int .i64 0]) ∧ C w' c X Y (oneP (lens rs)) (-1) ∧ ∀ k, Y k → w.heap.size ≤ k)
  valid : ∀ {w : World} {c : Nat} {X Y : Nat → Prop} {l : List P2} {t : Int}, C w c X Y l t → Calls Try.prog 23 #[.pointer (some ⟨c, 0, none⟩)] w fun e w' => e = .returned (.bool (decide (0 ≤ t))) ∧ Fr No w w'
  item : ∀ {w : World} {c : Nat} {X Y : Nat → Prop} {l : List P2} {t : Int}, C w c X Y l t → Calls Try.prog 29 #[.pointer (some ⟨c, 0, none⟩)] w fun e w' => e = .returned (.agg #[.int .i64 (itemI l t).1, .int .i64 (itemI l t).2]) ∧ Fr No w w'
  first : ∀ {w : World} {c : Nat} {X Y : Nat → Prop} {l : List P2} {t : Int}, C w c X Y l t → Calls Try.prog 24 #[.pointer (some ⟨c, 0, none⟩)] w (MoveRet C c X Y l (firstI l.length) w)
  last : ∀ {w : World} {c : Nat} {X Y : Nat → Prop} {l : List P2} {t : Int}, C w c X Y l t → Calls Try.prog 25 #[.pointer (some ⟨c, 0, none⟩)] w (MoveRet C c X Y l ((l.length : Int) - 1) w)
  next : ∀ {w : World} {c : Nat} {X Y : Nat → Prop} {l : List P2} {t : Int}, C w c X Y l t → Calls Try.prog 26 #[.pointer (some ⟨c, 0, none⟩)] w (MoveRet C c X Y l (nextI l.length t) w)
  prev : ∀ {w : World} {c : Nat} {X Y : Nat → Prop} {l : List P2} {t : Int}, C w c X Y l t → Calls Try.prog 27 #[.pointer (some ⟨c, 0, none⟩)] w (MoveRet C c X Y l (prevI t) w)
  seek : ∀ {w : World} {c : Nat} {X Y : Nat → Prop} {l : List P2} {t : Int} (k : Int), C w c X Y l t → Calls Try.prog 28 #[.pointer (some ⟨c, 0, none⟩), .int .i64 k] w (MoveRet C c X Y l (seekI l k) w)
end Go.Proofs.Ytkcgdmhggndhfaa
