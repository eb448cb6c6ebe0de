/-
  Layer 8: what the laws ask of the program's table ('AllocOK': shown elsewhere); a table of the call's own, beside a device of the call's own.
-/
import Derived.Test.YtmkadpjacidlkaaAlA
import Derived.Test.YtmkadpjacidlkaaZo8
namespace Go.Proofs.Ytmkadpjacidlkaa
set_option linter.unusedVariables false
open Go.RowKit

/-- Behind a call that works on a table. -/
def MoveT (T : World → Nat → (Nat → Prop) → Tb → Prop) (t : Nat) (F : Nat → Prop) (b : Tb) (v : Value) (w : World) (e : Ending) (w' : World) : Prop :=
  e = .returned v ∧ ∃ F', T w' t F' b ∧ (∀ k, F' k → F k ∨ (w.heap.size ≤ k ∧ k < w'.heap.size)) ∧ Fr F w w'
/-- Numbers that a call tells, in new memory. -/
def IntsRet (l : List Nat) (w : World) (e : Ending) (w' : World) : Prop := ∃ a c, e = .returned (.slice a l.length c) ∧ l.length ≤ c ∧ c ≤ maxLen ∧ Ints w' a (l.map fun (x : Nat) => (x : Int)) ∧ Fr No w w'
structure AllocOK (D : World → Nat → (Nat → Prop) → Dev → Prop) (T : World → Nat → (Nat → Prop) → Tb → Prop) : Prop where
  keep : ∀ {w w' : World} {t : Nat} {F S : Nat → Prop} {b : Tb}, T w t F b → Fr S w w' → (∀ k, F k → ¬ S k) → T w' t F b
  low : ∀ {w : World} {t : Nat} {F : Nat → Prop} {b : Tb}, T w t F b → ∀ k, F k → k < w.heap.size
  new : ∀ (z : Int) (w : World), wf64 z → Calls Try.prog 4 #[.int .i64 z] w fun e w' => Fr No w w' ∧ ((z < 1 ∨ 64 < z) → e = .returned (.pointer none)) ∧
      (1 ≤ z → z ≤ 64 → ∃ t F, e = .returned (.pointer (some ⟨t, 0, none⟩)) ∧ T w' t F (newT z) ∧ ∀ k, F k → w.heap.size ≤ k)
  take : ∀ {w : World} {t : Nat} {F : Nat → Prop} {b : Tb}, T w t F b → WT b → ∀ x : Int, wf64 x →
    Calls Try.prog 7 #[.pointer (some ⟨t, 0, none⟩), .int .i64 x] w (MoveT T t F (takT b x) (.tuple #[.int .i64 (takZ b x), .int .i64 (takE b x)]) w)
  own : ∀ {w : World} {t : Nat} {F : Nat → Prop} {b : Tb}, T w t F b → WT b → ∀ z x : Int, wf64 z → wf64 x →
    Calls Try.prog 9 #[.pointer (some ⟨t, 0, none⟩), .int .i64 z, .int .i64 x] w (MoveT T t F (ownT b z x) (.int .i64 (ownE b z x)) w)
  release : ∀ {w : World} {t : Nat} {F : Nat → Prop} {b : Tb}, T w t F b → WT b → ∀ z : Int, wf64 z →
    Calls Try.prog 11 #[.pointer (some ⟨t, 0, none⟩), .int .i64 z] w (MoveT T t F (relT b z) (.int .i64 (relE b z)) w)
  reset : ∀ {w : World} {t d : Nat} {F G : Nat → Prop} {b : Tb} {m : Dev}, T w t F b → WT b → D w d G m → WF m → m.done < 1000000 → (∀ k, F k → ¬ G k) →
    Calls Try.prog 13 #[.pointer (some ⟨t, 0, none⟩), .pointer (some ⟨d, 0, none⟩)] w fun e w' => e = .returned (.tuple #[.int .i64 (rstZ b m), .int .i64 (rstE b m)]) ∧
      ∃ F' G', T w' t F' (rstT b m) ∧ D w' d G' (rstM b m) ∧ (∀ k, F' k → F k ∨ (w.heap.size ≤ k ∧ k < w'.heap.size)) ∧ (∀ k, G' k → G k ∨ (w.heap.size ≤ k ∧ k < w'.heap.size)) ∧ (∀ k, F' k → ¬ G' k) ∧ Fr (fun k => F k ∨ G k) w w'
  rebuild : ∀ {w : World} {t d : Nat} {F G : Nat → Prop} {b : Tb} {m : Dev}, T w t F b → WT b → D w d G m → WF m → m.zs.length = b.r.length → (∀ k, F k → ¬ G k) →
    Calls Try.prog 16 #[.pointer (some ⟨t, 0, none⟩), .pointer (some ⟨d, 0, none⟩)] w (MoveT T t F (rebT b m) (.int .i64 ((rebL b m).length : Int)) w)
  role : ∀ {w : World} {t : Nat} {F : Nat → Prop} {b : Tb}, T w t F b → WT b → ∀ z : Int, wf64 z → Calls Try.prog 22 #[.pointer (some ⟨t, 0, none⟩), .int .i64 z] w (TellZ (.int .i64 (roleT b z)) w)
  count : ∀ {w : World} {t : Nat} {F : Nat → Prop} {b : Tb}, T w t F b → WT b → ∀ x : Int, wf64 x → Calls Try.prog 24 #[.pointer (some ⟨t, 0, none⟩), .int .i64 x] w (TellZ (.int .i64 (countT b x : Int)) w)
  list : ∀ {w : World} {t : Nat} {F : Nat → Prop} {b : Tb}, T w t F b → WT b → ∀ x : Int, wf64 x → Calls Try.prog 25 #[.pointer (some ⟨t, 0, none⟩), .int .i64 x] w (IntsRet (listT b x) w)
  queue : ∀ {w : World} {t : Nat} {F : Nat → Prop} {b : Tb}, T w t F b → WT b → Calls Try.prog 21 #[.pointer (some ⟨t, 0, none⟩)] w (IntsRet b.q w)
/-- A table of the call's own. -/
structure OwnT (T : World → Nat → (Nat → Prop) → Tb → Prop) (w0 w : World) (t : Nat) (F : Nat → Prop) (b : Tb) : Prop where
  tb : T w t F b
  new : ∀ k, F k → w0.heap.size ≤ k
  fr : Fr No w0 w
  wt : WT b
def MovedT (T : World → Nat → (Nat → Prop) → Tb → Prop) (w0 w : World) (t : Nat) (F : Nat → Prop) (b : Tb) (v : Value) (e : Ending) (w' : World) : Prop :=
  e = .returned v ∧ ∃ F', OwnT T w0 w' t F' b ∧ (∀ k, F' k → F k ∨ w.heap.size ≤ k) ∧ Fr F w w'
def ToldT (T : World → Nat → (Nat → Prop) → Tb → Prop) (w0 w : World) (t : Nat) (F : Nat → Prop) (b : Tb) (v : Value) (e : Ending) (w' : World) : Prop := e = .returned v ∧ OwnT T w0 w' t F b ∧ Fr No w w'
section
variable {D : World → Nat → (Nat → Prop) → Dev → Prop} {T : World → Nat → (Nat → Prop) → Tb → Prop} {w0 w : World} {t : Nat} {F : Nat → Prop} {b : Tb}
theorem OwnT.move (M : AllocOK D T) {b' : Tb} {f : FuncId} {args : Array Value} {v : Value} (h : OwnT T w0 w t F b) (hw : WT b') (c : Calls Try.prog f args w (MoveT T t F b' v w)) : Calls Try.prog f args w (MovedT T w0 w t F b' v) :=
  c.mono fun e w' ⟨h1, F', h2, h3, h4⟩ => ⟨h1, F', ⟨h2, fun k hk => (h3 k hk).elim (h.new k) (fun h5 => Nat.le_trans h.fr.size h5.1), h.fr.then_ h4 fun x hx hf => absurd (h.new x hf) (by omega), hw⟩, fun k hk => (h3 k hk).elim .inl (fun h5 => .inr h5.1), h4⟩
theorem OwnT.keepS (M : AllocOK D T) {w' : World} {S : Nat → Prop} (h : OwnT T w0 w t F b) (f : Fr S w w') (h1 : ∀ k, F k → ¬ S k) (h2 : ∀ k, S k → w0.heap.size ≤ k) : OwnT T w0 w' t F b :=
  ⟨M.keep h.tb f h1, h.new, h.fr.then_ f fun x hx hS => absurd (h2 x hS) (by omega), h.wt⟩
theorem OwnT.keep (M : AllocOK D T) {w' : World} (h : OwnT T w0 w t F b) (f : Fr No w w') : OwnT T w0 w' t F b := h.keepS M f (fun _ _ h => h) (fun _ h => h.elim)
theorem OwnT.low (M : AllocOK D T) (h : OwnT T w0 w t F b) : ∀ k, w.heap.size ≤ k → ¬ F k := fun k hk hf => absurd (M.low h.tb k hf) (by omega)
theorem OwnT.tell (M : AllocOK D T) {f : FuncId} {args : Array Value} {v : Value} (h : OwnT T w0 w t F b) (c : Calls Try.prog f args w (TellZ v w)) : Calls Try.prog f args w (ToldT T w0 w t F b v) := c.mono fun e w' ⟨h1, h2⟩ => ⟨h1, h.keep M h2, h2⟩
theorem OwnT.take (M : AllocOK D T) (h : OwnT T w0 w t F b) {x : Int} (wx : wf64 x) : Calls Try.prog 7 #[.pointer (some ⟨t, 0, none⟩), .int .i64 x] w (MovedT T w0 w t F (takT b x) (.tuple #[.int .i64 (takZ b x), .int .i64 (takE b x)])) := h.move M (wt_take h.wt x) (M.take h.tb h.wt x wx)
theorem OwnT.own (M : AllocOK D T) (h : OwnT T w0 w t F b) {z x : Int} (wz : wf64 z) (wx : wf64 x) : Calls Try.prog 9 #[.pointer (some ⟨t, 0, none⟩), .int .i64 z, .int .i64 x] w (MovedT T w0 w t F (ownT b z x) (.int .i64 (ownE b z x))) := h.move M (wt_own h.wt z x) (M.own h.tb h.wt z x wz wx)
theorem OwnT.release (M : AllocOK D T) (h : OwnT T w0 w t F b) {z : Int} (wz : wf64 z) : Calls Try.prog 11 #[.pointer (some ⟨t, 0, none⟩), .int .i64 z] w (MovedT T w0 w t F (relT b z) (.int .i64 (relE b z))) := h.move M (wt_rel h.wt z) (M.release h.tb h.wt z wz)
theorem OwnT.role (M : AllocOK D T) (h : OwnT T w0 w t F b) {z : Int} (wz : wf64 z) : Calls Try.prog 22 #[.pointer (some ⟨t, 0, none⟩), .int .i64 z] w (ToldT T w0 w t F b (.int .i64 (roleT b z))) := h.tell M (M.role h.tb h.wt z wz)
theorem OwnT.count (M : AllocOK D T) (h : OwnT T w0 w t F b) {x : Int} (wx : wf64 x) : Calls Try.prog 24 #[.pointer (some ⟨t, 0, none⟩), .int .i64 x] w (ToldT T w0 w t F b (.int .i64 (countT b x : Int))) := h.tell M (M.count h.tb h.wt x wx)
theorem OwnT.list (M : AllocOK D T) (h : OwnT T w0 w t F b) {x : Int} (wx : wf64 x) : Calls Try.prog 25 #[.pointer (some ⟨t, 0, none⟩), .int .i64 x] w fun e w' => IntsRet (listT b x) w e w' ∧ OwnT T w0 w' t F b :=
  (M.list h.tb h.wt x wx).mono fun e w' ⟨a, c, h1, h2, h3, h4, h5⟩ => ⟨⟨a, c, h1, h2, h3, h4, h5⟩, h.keep M h5⟩
theorem OwnT.queue (M : AllocOK D T) (h : OwnT T w0 w t F b) : Calls Try.prog 21 #[.pointer (some ⟨t, 0, none⟩)] w fun e w' => IntsRet b.q w e w' ∧ OwnT T w0 w' t F b :=
  (M.queue h.tb h.wt).mono fun e w' ⟨a, c, h1, h2, h3, h4, h5⟩ => ⟨⟨a, c, h1, h2, h3, h4, h5⟩, h.keep M h5⟩
end
end Go.Proofs.Ytmkadpjacidlkaa
