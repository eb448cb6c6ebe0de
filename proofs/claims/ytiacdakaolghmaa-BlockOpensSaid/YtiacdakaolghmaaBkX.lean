/-
  Layer 12: what the laws ask of package block (BlockOK).
-/
import Derived.Test.YtiacdakaolghmaaBkB
import Derived.Test.YtiacdakaolghmaaRowZ
namespace Go.Proofs.Ytiacdakaolghmaa
set_option linter.unusedVariables false
open Go.RowKit

def buildE (l : List Pr) (e : Int) : Int := if e < 1 ∨ 64 < e then 70 else if ordP l then 0 else 31
def buildB (l : List Pr) (e : Int) : List UInt8 := if buildE l e = 0 then blockB e.toNat l else []
/-- What Build answers. -/
def BuildRet (l : List Pr) (e : Int) (w : World) (en : Ending) (w' : World) : Prop := ∃ v, en = .returned (.tuple #[v, .int .i64 (buildE l e)]) ∧ RowQ w' (Gr No w w') v (buildB l e) ∧ Fr No w w'
/-- What Open answers: a block of the pairs whose bytes these are, or that they are of none. -/
def OpenRet (X : World → Nat → (Nat → Prop) → List Pr → Nat → Prop) (b : List UInt8) (w : World) (en : Ending) (w' : World) : Prop :=
  (∃ l e x F, 1 ≤ e ∧ e ≤ 64 ∧ ordP l ∧ blockB e l = b ∧ en = .returned (.tuple #[.pointer (some ⟨x, 0, none⟩), .int .i64 0]) ∧ X w' x F l e ∧ (∀ k, F k → w.heap.size ≤ k) ∧ Fr No w w') ∨
  ((∀ l e, 1 ≤ e → e ≤ 64 → ordP l → blockB e l ≠ b) ∧ en = .returned (.tuple #[.pointer none, .int .i64 20]) ∧ Fr No w w')
def atP (l : List Pr) (i : Int) : Pr := if 0 ≤ i ∧ i < l.length then l.getD i.toNat pr0 else pr0
/-- WHAT THE LAWS ASK OF PACKAGE block: X says that a block (its own block of memory, its footprint) holds pairs, with Every. -/
structure BlockOK (X : World → Nat → (Nat → Prop) → List Pr → Nat → Prop) : Prop where
  keep : ∀ {w w' : World} {x : Nat} {F T : Nat → Prop} {l : List Pr} {e : Nat}, X w x F l e → Fr T w w' → (∀ k, F k → ¬ T k) → X w' x F l e
  build : ∀ (w : World) (S : Nat → Prop) (a : Option Addr) (n cap : Nat) (l : List Pr) (e : Int), l.length = n → n ≤ cap → cap ≤ maxLen → n ≤ 80 → Low 300 l → Prs w S a l → (Lit.int .i64 e).wf = true →
    Calls Try.prog 11 #[.slice a n cap, .int .i64 e] w (BuildRet l e w)
  open_ : ∀ (w : World) (a : Option Addr) (n cap : Nat) (b : List UInt8), b.length = n → n ≤ cap → cap ≤ maxLen → n ≤ 100000 → Rd w a b →
    Calls Try.prog 16 #[.slice a n cap] w (OpenRet X b w)
  len : ∀ (w : World) (x : Nat) (F : Nat → Prop) (l : List Pr) (e : Nat), X w x F l e → Calls Try.prog 17 #[.pointer (some ⟨x, 0, none⟩)] w (PlainRet (.int .i64 (l.length : Int)) w)
  every : ∀ (w : World) (x : Nat) (F : Nat → Prop) (l : List Pr) (e : Nat), X w x F l e → Calls Try.prog 18 #[.pointer (some ⟨x, 0, none⟩)] w (PlainRet (.int .i64 (e : Int)) w)
  restarts : ∀ (w : World) (x : Nat) (F : Nat → Prop) (l : List Pr) (e : Nat), X w x F l e → Calls Try.prog 20 #[.pointer (some ⟨x, 0, none⟩)] w (PlainRet (.int .i64 ((startsN e l l.length).length : Int)) w)
  at_ : ∀ (w : World) (x : Nat) (F : Nat → Prop) (l : List Pr) (e : Nat) (i : Int), X w x F l e → (Lit.int .i64 i).wf = true → Calls Try.prog 19 #[.pointer (some ⟨x, 0, none⟩), .int .i64 i] w (PlainRet (prV (atP l i)) w)
  find : ∀ (w : World) (x : Nat) (F : Nat → Prop) (l : List Pr) (e : Nat) (kk : ByteArray), X w x F l e → kk.size ≤ 1000 → Calls Try.prog 22 #[.pointer (some ⟨x, 0, none⟩), .string kk] w (PlainRet (.int .i64 (findP l kk : Int)) w)
  shared : ∀ (w : World) (s t : ByteArray), s.size ≤ maxLen → t.size ≤ maxLen → Calls Try.prog 24 #[.string s, .string t] w (PlainRet (.int .i64 (shL (bs s) (bs t) : Int)) w)
end Go.Proofs.Ytiacdakaolghmaa
