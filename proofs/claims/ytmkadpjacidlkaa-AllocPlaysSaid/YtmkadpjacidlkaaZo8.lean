/-
  Layer 7's device for a later layer's laws: the contracts of the calls that they reach (written by zo_sub.py).
-/
import Derived.Test.YtmkadpjacidlkaaZoA
import Derived.Test.YtmkadpjacidlkaaOpenB
import Derived.Test.YtmkadpjacidlkaaHeld
import Derived.BigQuiet
import Derived.Lib.SlBytesConst
namespace Go.Proofs.Ytmkadpjacidlkaa
set_option linter.unusedVariables false
open Go.RowKit

/-- Behind a call that works on a device: it has blocks F, of which it turns some, and new ones. -/
def MoveZ (D : World → Nat → (Nat → Prop) → Dev → Prop) (d : Nat) (F : Nat → Prop) (m : Dev) (v : Value) (w : World) (e : Ending) (w' : World) : Prop :=
  e = .returned v ∧ ∃ F', D w' d F' m ∧ (∀ k, F' k → F k ∨ (w.heap.size ≤ k ∧ k < w'.heap.size)) ∧ Fr F w w'
def TellZ (v : Value) (w : World) (e : Ending) (w' : World) : Prop := e = .returned v ∧ Fr No w w'
abbrev wf64 (x : Int) : Prop := (Lit.int .i64 x).wf = true
/-- THE CONTRACTS of a device. -/
structure ZoneOK (D : World → Nat → (Nat → Prop) → Dev → Prop) : Prop where
  keep : ∀ {w w' : World} {d : Nat} {F T : Nat → Prop} {m : Dev}, D w d F m → Fr T w w' → (∀ k, F k → ¬ T k) → D w' d F m
  low : ∀ {w : World} {d : Nat} {F : Nat → Prop} {m : Dev}, D w d F m → ∀ k, F k → k < w.heap.size
  new : ∀ (z s o : Int) (w : World), wf64 z → wf64 s → wf64 o → Calls Try.prog 26 #[.agg #[.int .i64 z, .int .i64 s, .int .i64 o]] w fun e w' => Fr No w w' ∧ (rightG z s o = false → e = .returned (.pointer none)) ∧
      (rightG z s o = true → ∃ d F, e = .returned (.pointer (some ⟨d, 0, none⟩)) ∧ D w' d F (newM z s o) ∧ ∀ k, F k → w.heap.size ≤ k)
  append : ∀ {w : World} {d : Nat} {F : Nat → Prop} {m : Dev}, D w d F m → WF m → m.done < 1000000 → ∀ (z : Int), wf64 z → ∀ (S : Nat → Prop) (a : Option Addr) (c : Nat) (b : List UInt8), b.length ≤ 1000000 → b.length ≤ c → c ≤ maxLen → In w S a b → (∀ k, S k → ¬ F k) →
    Calls Try.prog 17 #[.pointer (some ⟨d, 0, none⟩), .int .i64 z, .slice a b.length c] w (MoveZ D d F (appM m z b) (.int .i64 (cmdR m (appErr m z b))) w)
  reset : ∀ {w : World} {d : Nat} {F : Nat → Prop} {m : Dev}, D w d F m → WF m → m.done < 1000000 → ∀ (z : Int), wf64 z →
    Calls Try.prog 32 #[.pointer (some ⟨d, 0, none⟩), .int .i64 z] w (MoveZ D d F (resM m z) (.int .i64 (cmdR m (resErr m z))) w)
  arm : ∀ {w : World} {d : Nat} {F : Nat → Prop} {m : Dev}, D w d F m → WF m → ∀ (n : Int), wf64 n →
    Calls Try.prog 18 #[.pointer (some ⟨d, 0, none⟩), .int .i64 n] w (MoveZ D d F (armM m n) (.tuple #[]) w)
  crash : ∀ {w : World} {d : Nat} {F : Nat → Prop} {m : Dev}, D w d F m → WF m → ∀ (a : Option Addr) (c : Nat) (ks : List Int), ks.length ≤ 1000000 → ks.length ≤ c → c ≤ maxLen → Ints w a ks → (0 < ks.length → ∀ b o, a = some ⟨b, o, none⟩ → ¬ F b) →
    Calls Try.prog 19 #[.pointer (some ⟨d, 0, none⟩), .slice a ks.length c] w (MoveZ D d F (crashM m ks) (.tuple #[]) w)
  state : ∀ {w : World} {d : Nat} {F : Nat → Prop} {m : Dev}, D w d F m → WF m → ∀ (z : Int), wf64 z → Calls Try.prog 15 #[.pointer (some ⟨d, 0, none⟩), .int .i64 z] w (TellZ (.int .i64 (stateM m z)) w)
  down : ∀ {w : World} {d : Nat} {F : Nat → Prop} {m : Dev}, D w d F m → WF m → Calls Try.prog 14 #[.pointer (some ⟨d, 0, none⟩)] w (TellZ (.bool m.down) w)
theorem wf_small {x : Int} (h1 : -9223372036854775808 ≤ x) (h2 : x ≤ 9223372036854775807) : wf64 x := by
  simp [wf64, Lit.wf, IntKind.min, IntKind.max, IntKind.signed, IntKind.bits]
  omega
theorem wf_out {x : Int} (h : wf64 x) : -9223372036854775808 ≤ x ∧ x ≤ 9223372036854775807 := by
  simp [wf64, Lit.wf, IntKind.min, IntKind.max, IntKind.signed, IntKind.bits] at h
  omega

def Yes (w : World) (e : Ending) (w' : World) : Prop := e = .returned (.bool true) ∧ Fr No w w'
theorem In.new (w : World) (C : Array Value) (t : TypeId) (fr : Nat × Nat) (l : List UInt8) (hC : C = (l.map byt).toArray) : In (w.alloc (.cells C t fr)) (One w.heap.size) (some ⟨w.heap.size, 0, none⟩) l := fun hl => by
  subst hC
  refine ⟨_, _, rfl, rfl, fun i hi => ?_⟩
  rw [Nat.zero_add, cell_of_row _ _ i _ t fr (heap_alloc_new w _)]
  simp [List.getD, hi]
section
variable {D : World → Nat → (Nat → Prop) → Dev → Prop}
theorem MoveZ.from {d : Nat} {F : Nat → Prop} {m : Dev} {v : Value} {w0 w w' : World} {e : Ending} (h : MoveZ D d F m v w e w') (f : Fr No w0 w) : MoveZ D d F m v w0 e w' := by
  obtain ⟨h1, F', h2, h3, h4⟩ := h
  exact ⟨h1, F', h2, fun k hk => (h3 k hk).elim .inl (fun h => .inr ⟨Nat.le_trans f.size h.1, h.2⟩), (f.sub fun _ _ h => h.elim).trans h4⟩
/-- Bytes of a constant, appended. -/
theorem app_x (M : ZoneOK D) {w : World} {d : Nat} {F : Nat → Prop} {m : Dev} (h : D w d F m) (hw : WF m) (hd : m.done < 1000000) (z : Int) (wz : wf64 z) (b : List UInt8) (n : Nat) (hn : b.length = n) (hs : n ≤ 1000) (fr : Nat × Nat) (r : Int) (hr : cmdR m (appErr m z b) = r) :
    Calls Try.prog 17 #[.pointer (some ⟨d, 0, none⟩), .int .i64 z, .slice (some ⟨w.heap.size, 0, none⟩) n n] (w.alloc (.cells (b.map byt).toArray 5 fr)) (MoveZ D d F (appM m z b) (.int .i64 r) w) := by
  subst hn
  have f := (Fr.refl No w).alloc (.cells (b.map byt).toArray 5 fr)
  have := M.append (M.keep h f (fun _ _ h => h)) hw hd z wz (One w.heap.size) _ b.length b (by omega) (Nat.le_refl _) (by unfold maxLen; omega) (In.new w _ 5 fr b rfl) (fun k hk hF => absurd (M.low h k hF) (by rw [show k = w.heap.size from hk]; exact Nat.lt_irrefl _))
  rw [hr] at this
  exact this.mono fun e w' h => h.from f
theorem Ints.new1 (w : World) (x : Int) (hx : wf64 x) : Ints (w.alloc (.cells #[.int .i64 x] 3)) (some ⟨w.heap.size, 0, none⟩) [x] := fun _ => by
  refine ⟨w.heap.size, 0, rfl, fun i y hy => ?_⟩
  match i, hy with
  | 0, hy =>
    obtain rfl := Option.some.inj hy
    exact ⟨(At.new w 3 #[.int .i64 x]).cell 0, hx⟩
  | i + 1, hy => cases hy
theorem crash_x (M : ZoneOK D) {w : World} {d : Nat} {F : Nat → Prop} {m : Dev} (h : D w d F m) (hw : WF m) (x : Int) (wx : wf64 x) :
    Calls Try.prog 19 #[.pointer (some ⟨d, 0, none⟩), .slice (some ⟨w.heap.size, 0, none⟩) 1 1] (w.alloc (.cells #[.int .i64 x] 3)) (MoveZ D d F (crashM m [x]) (.tuple #[]) w) := by
  have f := (Fr.refl No w).alloc (.cells #[.int .i64 x] 3)
  have := M.crash (M.keep h f (fun _ _ h => h)) hw _ 1 [x] (by simp) (Nat.le_refl _) (by simp [maxLen]) (Ints.new1 w x wx) (fun _ b o hb hF => absurd (M.low h b hF) (by
    have : w.heap.size = b ∧ 0 = o := by simpa using hb
    omega))
  exact this.mono fun e w' h => h.from f
/-- A device of the call's own (its blocks F are new since w0), nothing of before has turned. -/
structure OwnZ (D : World → Nat → (Nat → Prop) → Dev → Prop) (w0 w : World) (d : Nat) (F : Nat → Prop) (m : Dev) : Prop where
  dv : D w d F m
  new : ∀ k, F k → w0.heap.size ≤ k
  fr : Fr No w0 w
  wf : WF m
/-- Behind a call that works on it. -/
def MovedZ (D : World → Nat → (Nat → Prop) → Dev → Prop) (w0 w : World) (d : Nat) (F : Nat → Prop) (m : Dev) (v : Value) (e : Ending) (w' : World) : Prop :=
  e = .returned v ∧ ∃ F', OwnZ D w0 w' d F' m ∧ (∀ k, F' k → F k ∨ w.heap.size ≤ k) ∧ Fr F w w'
def ToldZ (D : World → Nat → (Nat → Prop) → Dev → Prop) (w0 w : World) (d : Nat) (F : Nat → Prop) (m : Dev) (v : Value) (e : Ending) (w' : World) : Prop := e = .returned v ∧ OwnZ D w0 w' d F m ∧ Fr No w w'
theorem OwnZ.move (M : ZoneOK D) {w0 w : World} {d : Nat} {F : Nat → Prop} {m m' : Dev} {f : FuncId} {args : Array Value} {v : Value} {W : World} (h : OwnZ D w0 w d F m) (hw : WF m')
    (c : Calls Try.prog f args W (MoveZ D d F m' v w)) : Calls Try.prog f args W (MovedZ D w0 w d F m' v) :=
  c.mono fun e w' ⟨h1, F', h2, h3, h4⟩ => ⟨h1, F', ⟨h2, fun k hk => (h3 k hk).elim (h.new k) (fun h5 => Nat.le_trans h.fr.size h5.1), h.fr.then_ h4 fun x hx hf => absurd (h.new x hf) (by omega), hw⟩, fun k hk => (h3 k hk).elim .inl (fun h5 => .inr h5.1), h4⟩
theorem OwnZ.keep (M : ZoneOK D) {w0 w w' : World} {d : Nat} {F : Nat → Prop} {m : Dev} (h : OwnZ D w0 w d F m) (f : Fr No w w') : OwnZ D w0 w' d F m :=
  ⟨M.keep h.dv f (fun _ _ h => h), h.new, h.fr.trans f, h.wf⟩
theorem OwnZ.low (M : ZoneOK D) {w0 w : World} {d : Nat} {F : Nat → Prop} {m : Dev} (h : OwnZ D w0 w d F m) : ∀ k, w.heap.size ≤ k → ¬ F k := fun k hk hf => absurd (M.low h.dv k hf) (by omega)
theorem OwnZ.tell (M : ZoneOK D) {w0 w : World} {d : Nat} {F : Nat → Prop} {m : Dev} {f : FuncId} {args : Array Value} {v : Value} (h : OwnZ D w0 w d F m) (c : Calls Try.prog f args w (TellZ v w)) :
    Calls Try.prog f args w (ToldZ D w0 w d F m v) := c.mono fun e w' ⟨h1, h2⟩ => ⟨h1, h.keep M h2, h2⟩
section
variable {w0 w : World} {d : Nat} {F : Nat → Prop} {m : Dev}
theorem OwnZ.append (M : ZoneOK D) (h : OwnZ D w0 w d F m) (hd : m.done < 1000000) {z : Int} (wz : wf64 z) {a : Option Addr} {c : Nat} {b : List UInt8} (hb : b.length ≤ 1000000) (hc : b.length ≤ c) (hm : c ≤ maxLen) (rd : Rd w0 a b) :
    Calls Try.prog 17 #[.pointer (some ⟨d, 0, none⟩), .int .i64 z, .slice a b.length c] w (MovedZ D w0 w d F (appM m z b) (.int .i64 (cmdR m (appErr m z b)))) :=
  h.move M (wf_app h.wf z b) (M.append h.dv h.wf hd z wz (Till w0.heap.size) a c b hb hc hm ((In.of_rd rd).keep h.fr (fun _ _ h => h)) (fun k hk hf => absurd (h.new k hf) (Nat.not_le_of_lt hk)))
theorem OwnZ.appx (M : ZoneOK D) (h : OwnZ D w0 w d F m) (hd : m.done < 1000000) (z : Int) (wz : wf64 z) (b : List UInt8) (n : Nat) (hn : b.length = n) (hs : n ≤ 1000) (fr : Nat × Nat) (r : Int) (hr : cmdR m (appErr m z b) = r) :
    Calls Try.prog 17 #[.pointer (some ⟨d, 0, none⟩), .int .i64 z, .slice (some ⟨w.heap.size, 0, none⟩) n n] (w.alloc (.cells (b.map byt).toArray 5 fr)) (MovedZ D w0 w d F (appM m z b) (.int .i64 r)) :=
  h.move M (wf_app h.wf z b) (app_x M h.dv h.wf hd z wz b n hn hs fr r hr)
theorem OwnZ.crashx (M : ZoneOK D) (h : OwnZ D w0 w d F m) (x : Int) (wx : wf64 x) :
    Calls Try.prog 19 #[.pointer (some ⟨d, 0, none⟩), .slice (some ⟨w.heap.size, 0, none⟩) 1 1] (w.alloc (.cells #[.int .i64 x] 3)) (MovedZ D w0 w d F (crashM m [x]) (.tuple #[])) :=
  h.move M (wf_crash h.wf _) (crash_x M h.dv h.wf x wx)
theorem OwnZ.reset (M : ZoneOK D) (h : OwnZ D w0 w d F m) (hd : m.done < 1000000) {z : Int} (wz : wf64 z) :
    Calls Try.prog 32 #[.pointer (some ⟨d, 0, none⟩), .int .i64 z] w (MovedZ D w0 w d F (resM m z) (.int .i64 (cmdR m (resErr m z)))) :=
  h.move M (wf_res h.wf z) (M.reset h.dv h.wf hd z wz)
theorem OwnZ.arm (M : ZoneOK D) (h : OwnZ D w0 w d F m) {n : Int} (wn : wf64 n) :
    Calls Try.prog 18 #[.pointer (some ⟨d, 0, none⟩), .int .i64 n] w (MovedZ D w0 w d F (armM m n) (.tuple #[])) :=
  h.move M (wf_arm h.wf n) (M.arm h.dv h.wf n wn)
theorem OwnZ.crash (M : ZoneOK D) (h : OwnZ D w0 w d F m) {a : Option Addr} {c : Nat} {ks : List Int} (hk : ks.length ≤ 1000000) (hc : ks.length ≤ c) (hm : c ≤ maxLen) (rd : Ints w0 a ks) :
    Calls Try.prog 19 #[.pointer (some ⟨d, 0, none⟩), .slice a ks.length c] w (MovedZ D w0 w d F (crashM m ks) (.tuple #[])) :=
  h.move M (wf_crash h.wf ks) (M.crash h.dv h.wf a c ks hk hc hm (rd.keep h.fr) (fun h1 b o hb hf => by
    obtain ⟨b', o', e, hx⟩ := rd h1
    obtain rfl : b = b' := by
      rw [hb] at e
      exact congrArg Addr.block (Option.some.inj e)
    have := cell_block (hx 0 ks[0] (List.getElem?_eq_getElem h1)).1
    exact absurd (h.new b hf) (Nat.not_le_of_lt this)))
theorem OwnZ.state (M : ZoneOK D) (h : OwnZ D w0 w d F m) {z : Int} (wz : wf64 z) : Calls Try.prog 15 #[.pointer (some ⟨d, 0, none⟩), .int .i64 z] w (ToldZ D w0 w d F m (.int .i64 (stateM m z))) := h.tell M (M.state h.dv h.wf z wz)
theorem OwnZ.down (M : ZoneOK D) (h : OwnZ D w0 w d F m) : Calls Try.prog 14 #[.pointer (some ⟨d, 0, none⟩)] w (ToldZ D w0 w d F m (.bool m.down)) := h.tell M (M.down h.dv h.wf)
end
theorem newZ (M : ZoneOK D) (z s o : Int) (w : World) (wz : wf64 z) (ws : wf64 s) (wo : wf64 o) (w0 : World) (f : Fr No w0 w) :
    Calls Try.prog 26 #[.agg #[.int .i64 z, .int .i64 s, .int .i64 o]] w fun e w' => Fr No w w' ∧ ((rightG z s o = false ∧ e = .returned (.pointer none)) ∨ (rightG z s o = true ∧ ∃ d F, e = .returned (.pointer (some ⟨d, 0, none⟩)) ∧ OwnZ D w0 w' d F (newM z s o) ∧ ∀ k, F k → w.heap.size ≤ k)) := by
  refine (M.new z s o w wz ws wo).mono fun e w' ⟨h1, h2, h3⟩ => ⟨h1, ?_⟩
  cases h : rightG z s o with
  | false => exact .inl ⟨rfl, h2 h⟩
  | true =>
    obtain ⟨d, F, he, hD, hF⟩ := h3 h
    exact .inr ⟨rfl, d, F, he, ⟨hD, fun k hk => Nat.le_trans f.size (hF k hk), f.trans h1, wf_new h⟩, hF⟩
end
end Go.Proofs.Ytmkadpjacidlkaa
