/-
  Texts of layer 13 and of what it stands on, one behind the other.
-/
import Derived.Test.YtlobnbbndkhcbaaGreatDoorMg11
import Derived.Test.YtlobnbbndkhcbaaGreatDoorMg09

/- A writer on its way through a region that draws its order. -/
namespace Go.Proofs.YtlobnbbndkhcbaaGreatDoor
set_option linter.unusedVariables false
open Go.RowKit

/-- A conversion whose run is known, in a region that draws. -/
theorem oper_convert_run {P : Program} {o : Oper} {a : Act} {w w' : World} {K : Act → World → Prop} {Q : Exit → Act → World → Prop} (s d : TypeId) (x : Operand)
    (ho : o.op = .convert s d x) {u v : Value} (hx : a.eval x = u) (hr : (convert s d u).run P w = .ok v w') (h : K (a.put o.dst v) w') : Oper.wp P o a w K Q := by
  unfold Oper.wp
  simp only [execOp, ho, Sem.run_bind, Sem.run_pure, Result.andThen_ok, hx, hr]
  exact h
theorem Rd.in_ {w : World} {T : Nat → Prop} {g : Nat} {l : List UInt8} (h : Rd w (some ⟨g, 0, none⟩) l) (hT : T g) : In w T (some ⟨g, 0, none⟩) l := fun hl => by
  obtain ⟨b, o, e1, e2⟩ := h hl
  injection e1 with e1
  injection e1 with e3 e4 e5
  subst e3 e4
  exact ⟨g, 0, hT, rfl, e2⟩
theorem Wr.bound {w : World} {B : Nat} {S : Nat → Prop} {p : List UInt8} {bad : Bool} (h : Wr w B S p bad) : ∀ k, S k → k < w.heap.size := by
  obtain ⟨_, _, _, _, h⟩ := h
  exact h
theorem Wr.not {w : World} {B : Nat} {S : Nat → Prop} {p : List UInt8} {bad : Bool} (h : Wr w B S p bad) : ¬ S B := by
  obtain ⟨_, _, _, h, _⟩ := h
  exact h
/-- A writer on its way: what it has turned since w is its own, or new. -/
structure WrT (S : Nat → Prop) (w a : World) (B : Nat) (T : Nat → Prop) (p : List UInt8) (bad : Bool) : Prop where
  wr : Wr a B T p bad
  old : ∀ k, T k → k < w.heap.size → S k
  fr : Fr (Two (One B) S) w a
  lt : B < w.heap.size
  ns : ¬ S B
  sb : ∀ k, S k → k < w.heap.size
theorem WrT.start {S : Nat → Prop} {w : World} {B : Nat} {p : List UInt8} {bad : Bool} (h : Wr w B S p bad) : WrT S w w B S p bad := ⟨h, fun _ h _ => h, Fr.refl _ _, h.lt, h.not, h.bound⟩
theorem WrT.no {S : Nat → Prop} {w a b : World} {B : Nat} {T : Nat → Prop} {p : List UInt8} {bad : Bool} (h : WrT S w a B T p bad) (f : Fr No a b) : WrT S w b B T p bad :=
  ⟨h.wr.keep f (fun h => h) (fun _ _ h => h), h.old, h.fr.then_ f fun _ _ h => h.elim, h.lt, h.ns, h.sb⟩
theorem WrT.call {S : Nat → Prop} {w a : World} {B : Nat} {T : Nat → Prop} {p p' : List UInt8} {bad bad' : Bool} (h : WrT S w a B T p bad) {e : Ending} {w' : World} (hr : WrRet B T p' bad' a e w') :
    e = .returned (.pointer (some ⟨B, 0, none⟩)) ∧ WrT S w w' B (Gr T a w') p' bad' ∧ Fr (Two (One B) T) a w' := by
  obtain ⟨rfl, h1, h2⟩ := hr
  refine ⟨rfl, ⟨h1, fun k hk hl => ?_, h.fr.then_ h2 fun k hk hh => ?_, h.lt, h.ns, h.sb⟩, h2⟩
  · rcases hk with hk | hk
    · exact h.old k hk hl
    · have := h.fr.size; omega
  · exact hh.elim .inl fun hh => .inr (h.old k hh hk)
theorem WrT.done {S : Nat → Prop} {w a : World} {B : Nat} {T : Nat → Prop} {p : List UInt8} {bad : Bool} (h : WrT S w a B T p bad) : Wr a B (Gr S w a) p bad ∧ Fr (Two (One B) S) w a :=
  ⟨h.wr.sub (fun k hk => by
    rcases Nat.lt_or_ge k w.heap.size with h1 | h1
    · exact .inl (h.old k hk h1)
    · exact .inr ⟨h1, h.wr.bound k hk⟩) (fun hh => hh.elim h.ns fun hh => by have := h.lt; omega) (fun k hk => hk.elim (fun hk => Nat.lt_of_lt_of_le (h.sb k hk) h.fr.size) fun hk => hk.2), h.fr⟩
end Go.Proofs.YtlobnbbndkhcbaaGreatDoor

/- Layer 2: the reader's Left and Bad. -/
namespace Go.Proofs.YtlobnbbndkhcbaaGreatDoor
set_option linter.unusedVariables false
open Go.RowKit

set_option maxHeartbeats 400000 in
theorem rleft_c (w : World) (B : Nat) (S : Nat → Prop) (st : St) (hr : Rr w B S st) :
    Calls Tryz.prog 135 #[.pointer (some ⟨B, 0, none⟩)] w fun e w' => e = .returned (.int .i64 (st.1.length : Int)) ∧ w = w' := by
  obtain ⟨a, cap, hat, _⟩ := hr
  have c0 : w.cell? ⟨B, 0, none⟩ = some (.slice a st.1.length cap) := by rw [hat.cell]; rfl
  clear hat
  generalize st.1.length = n at *
  go_enter Tryz.func135, Tryz.ntmps135
  go_wp2_with fail
  go_ret
  exact ⟨rfl, rfl⟩
set_option maxHeartbeats 400000 in
theorem rbad_c (w : World) (B : Nat) (S : Nat → Prop) (st : St) (hr : Rr w B S st) :
    Calls Tryz.prog 137 #[.pointer (some ⟨B, 0, none⟩)] w fun e w' => e = .returned (.bool st.2) ∧ w = w' := by
  obtain ⟨a, cap, hat, _⟩ := hr
  have c0 : w.cell? ⟨B, 1, none⟩ = some (.bool st.2) := by rw [hat.cell]; rfl
  clear hat
  generalize st.2 = b at *
  go_enter Tryz.func137, Tryz.ntmps137
  go_wp2_with fail
  go_ret
  exact ⟨rfl, rfl⟩
end Go.Proofs.YtlobnbbndkhcbaaGreatDoor
