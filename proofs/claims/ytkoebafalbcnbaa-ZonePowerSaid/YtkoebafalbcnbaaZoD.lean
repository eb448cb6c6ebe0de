/-
  Layer 7: the laws' fixed answer, over the contracts of a device.
-/
import Derived.Test.YtkoebafalbcnbaaZoC
namespace Go.Proofs.Ytkoebafalbcnbaa
set_option linter.unusedVariables false
open Go.RowKit

def Yes (w : World) (e : Ending) (w' : World) : Prop := e = .returned (.bool true) ∧ Fr No w w'
theorem In.new (w : World) (C : Array Value) (t : TypeId) (fr : Nat × Nat) (l : List UInt8) (hC : C = (l.map byt).toArray) : In (w.alloc (.cells C t fr)) (One w.heap.size) (some ⟨w.heap.size, 0, none⟩) l := fun hl => by
  subst hC
  refine ⟨_, _, rfl, rfl, fun i hi => ?_⟩
  rw [Nat.zero_add, cell_of_row _ _ i _ t fr (heap_alloc_new w _)]
  simp [List.getD, hi]
section
variable {D : World → Nat → (Nat → Prop) → Dev → Prop}
theorem MoveZ.from {d : Nat} {F : Nat → Prop} {m : Dev} {v : Value} {w0 w w' : World} {e : Ending} (h : MoveZ D d F m v w e w') (f : Fr No w0 w) : MoveZ D d F m v w0 e w' := by
  obtain ⟨h1, F', h2, h3, h4⟩ := h
  exact ⟨h1, F', h2, fun k hk => (h3 k hk).elim .inl (fun h => .inr ⟨Nat.le_trans f.size h.1, h.2⟩), (f.sub fun _ _ h => h.elim).trans h4⟩
/-- Bytes of a constant, appended. -/
theorem app_x (M : ZoneOK D) {w : World} {d : Nat} {F : Nat → Prop} {m : Dev} (h : D w d F m) (hw : WF m) (hd : m.done < 1000000) (z : Int) (wz : wf64 z) (b : List UInt8) (n : Nat) (hn : b.length = n) (hs : n ≤ 1000) (fr : Nat × Nat) (r : Int) (hr : cmdR m (appErr m z b) = r) :
    Calls Try.prog 11 #[.pointer (some ⟨d, 0, none⟩), .int .i64 z, .slice (some ⟨w.heap.size, 0, none⟩) n n] (w.alloc (.cells (b.map byt).toArray 5 fr)) (MoveZ D d F (appM m z b) (.int .i64 r) w) := by
  subst hn
  have f := (Fr.refl No w).alloc (.cells (b.map byt).toArray 5 fr)
  have := M.append (M.keep h f (fun _ _ h => h)) hw hd z wz (One w.heap.size) _ b.length b (by omega) (Nat.le_refl _) (by unfold maxLen; omega) (In.new w _ 5 fr b rfl) (fun k hk hF => absurd (M.low h k hF) (by rw [show k = w.heap.size from hk]; exact Nat.lt_irrefl _))
  rw [hr] at this
  exact this.mono fun e w' h => h.from f
theorem Ints.new1 (w : World) (x : Int) (hx : wf64 x) : Ints (w.alloc (.cells #[.int .i64 x] 3)) (some ⟨w.heap.size, 0, none⟩) [x] := fun _ => by
  refine ⟨w.heap.size, 0, rfl, fun i y hy => ?_⟩
  match i, hy with
  | 0, hy =>
    obtain rfl := Option.some.inj hy
    exact ⟨(At.new w 3 #[.int .i64 x]).cell 0, hx⟩
  | i + 1, hy => cases hy
theorem crash_x (M : ZoneOK D) {w : World} {d : Nat} {F : Nat → Prop} {m : Dev} (h : D w d F m) (hw : WF m) (x : Int) (wx : wf64 x) :
    Calls Try.prog 17 #[.pointer (some ⟨d, 0, none⟩), .slice (some ⟨w.heap.size, 0, none⟩) 1 1] (w.alloc (.cells #[.int .i64 x] 3)) (MoveZ D d F (crashM m [x]) (.tuple #[]) w) := by
  have f := (Fr.refl No w).alloc (.cells #[.int .i64 x] 3)
  have := M.crash (M.keep h f (fun _ _ h => h)) hw _ 1 [x] (by simp) (Nat.le_refl _) (by simp [maxLen]) (Ints.new1 w x wx) (fun _ b o hb hF => absurd (M.low h b hF) (by
    have : w.heap.size = b ∧ 0 = o := by simpa using hb
    omega))
  exact this.mono fun e w' h => h.from f
/-- A device of the call's own (its blocks F are new since w0), nothing of before has turned. -/
structure OwnZ (D : World → Nat → (Nat → Prop) → Dev → Prop) (w0 w : World) (d : Nat) (F : Nat → Prop) (m : Dev) : Prop where
  dv : D w d F m
  new : ∀ k, F k → w0.heap.size ≤ k
  fr : Fr No w0 w
  wf : WF m
/-- Behind a call that works on it. -/
def MovedZ (D : World → Nat → (Nat → Prop) → Dev → Prop) (w0 w : World) (d : Nat) (F : Nat → Prop) (m : Dev) (v : Value) (e : Ending) (w' : World) : Prop :=
  e = .returned v ∧ ∃ F', OwnZ D w0 w' d F' m ∧ (∀ k, F' k → F k ∨ w.heap.size ≤ k) ∧ Fr F w w'
def ToldZ (D : World → Nat → (Nat → Prop) → Dev → Prop) (w0 w : World) (d : Nat) (F : Nat → Prop) (m : Dev) (v : Value) (e : Ending) (w' : World) : Prop := e = .returned v ∧ OwnZ D w0 w' d F m ∧ Fr No w w'
theorem OwnZ.move (M : ZoneOK D) {w0 w : World} {d : Nat} {F : Nat → Prop} {m m' : Dev} {f : FuncId} {args : Array Value} {v : Value} {W : World} (h : OwnZ D w0 w d F m) (hw : WF m')
    (c : Calls Try.prog f args W (MoveZ D d F m' v w)) : Calls Try.prog f args W (MovedZ D w0 w d F m' v) :=
  c.mono fun e w' ⟨h1, F', h2, h3, h4⟩ => ⟨h1, F', ⟨h2, fun k hk => (h3 k hk).elim (h.new k) (fun h5 => Nat.le_trans h.fr.size h5.1), h.fr.then_ h4 fun x hx hf => absurd (h.new x hf) (by omega), hw⟩, fun k hk => (h3 k hk).elim .inl (fun h5 => .inr h5.1), h4⟩
theorem OwnZ.keep (M : ZoneOK D) {w0 w w' : World} {d : Nat} {F : Nat → Prop} {m : Dev} (h : OwnZ D w0 w d F m) (f : Fr No w w') : OwnZ D w0 w' d F m :=
  ⟨M.keep h.dv f (fun _ _ h => h), h.new, h.fr.trans f, h.wf⟩
theorem OwnZ.low (M : ZoneOK D) {w0 w : World} {d : Nat} {F : Nat → Prop} {m : Dev} (h : OwnZ D w0 w d F m) : ∀ k, w.heap.size ≤ k → ¬ F k := fun k hk hf => absurd (M.low h.dv k hf) (by omega)
theorem OwnZ.tell (M : ZoneOK D) {w0 w : World} {d : Nat} {F : Nat → Prop} {m : Dev} {f : FuncId} {args : Array Value} {v : Value} (h : OwnZ D w0 w d F m) (c : Calls Try.prog f args w (TellZ v w)) :
    Calls Try.prog f args w (ToldZ D w0 w d F m v) := c.mono fun e w' ⟨h1, h2⟩ => ⟨h1, h.keep M h2, h2⟩
section
variable {w0 w : World} {d : Nat} {F : Nat → Prop} {m : Dev}
theorem OwnZ.append (M : ZoneOK D) (h : OwnZ D w0 w d F m) (hd : m.done < 1000000) {z : Int} (wz : wf64 z) {a : Option Addr} {c : Nat} {b : List UInt8} (hb : b.length ≤ 1000000) (hc : b.length ≤ c) (hm : c ≤ maxLen) (rd : Rd w0 a b) :
    Calls Try.prog 11 #[.pointer (some ⟨d, 0, none⟩), .int .i64 z, .slice a b.length c] w (MovedZ D w0 w d F (appM m z b) (.int .i64 (cmdR m (appErr m z b)))) :=
  h.move M (wf_app h.wf z b) (M.append h.dv h.wf hd z wz (Till w0.heap.size) a c b hb hc hm ((In.of_rd rd).keep h.fr (fun _ _ h => h)) (fun k hk hf => absurd (h.new k hf) (Nat.not_le_of_lt hk)))
theorem OwnZ.appx (M : ZoneOK D) (h : OwnZ D w0 w d F m) (hd : m.done < 1000000) (z : Int) (wz : wf64 z) (b : List UInt8) (n : Nat) (hn : b.length = n) (hs : n ≤ 1000) (fr : Nat × Nat) (r : Int) (hr : cmdR m (appErr m z b) = r) :
    Calls Try.prog 11 #[.pointer (some ⟨d, 0, none⟩), .int .i64 z, .slice (some ⟨w.heap.size, 0, none⟩) n n] (w.alloc (.cells (b.map byt).toArray 5 fr)) (MovedZ D w0 w d F (appM m z b) (.int .i64 r)) :=
  h.move M (wf_app h.wf z b) (app_x M h.dv h.wf hd z wz b n hn hs fr r hr)
theorem OwnZ.crashx (M : ZoneOK D) (h : OwnZ D w0 w d F m) (x : Int) (wx : wf64 x) :
    Calls Try.prog 17 #[.pointer (some ⟨d, 0, none⟩), .slice (some ⟨w.heap.size, 0, none⟩) 1 1] (w.alloc (.cells #[.int .i64 x] 3)) (MovedZ D w0 w d F (crashM m [x]) (.tuple #[])) :=
  h.move M (wf_crash h.wf _) (crash_x M h.dv h.wf x wx)
theorem OwnZ.reset (M : ZoneOK D) (h : OwnZ D w0 w d F m) (hd : m.done < 1000000) {z : Int} (wz : wf64 z) :
    Calls Try.prog 13 #[.pointer (some ⟨d, 0, none⟩), .int .i64 z] w (MovedZ D w0 w d F (resM m z) (.int .i64 (cmdR m (resErr m z)))) :=
  h.move M (wf_res h.wf z) (M.reset h.dv h.wf hd z wz)
theorem OwnZ.finish (M : ZoneOK D) (h : OwnZ D w0 w d F m) (hd : m.done < 1000000) {z : Int} (wz : wf64 z) :
    Calls Try.prog 14 #[.pointer (some ⟨d, 0, none⟩), .int .i64 z] w (MovedZ D w0 w d F (finM m z) (.int .i64 (cmdR m (finErr m z)))) :=
  h.move M (wf_fin h.wf z) (M.finish h.dv h.wf hd z wz)
theorem OwnZ.flush (M : ZoneOK D) (h : OwnZ D w0 w d F m) (hd : m.done < 1000000) :
    Calls Try.prog 15 #[.pointer (some ⟨d, 0, none⟩)] w (MovedZ D w0 w d F (fluM m) (.int .i64 (cmdR m (fluErr m)))) :=
  h.move M (wf_flu h.wf) (M.flush h.dv h.wf hd)
theorem OwnZ.arm (M : ZoneOK D) (h : OwnZ D w0 w d F m) {n : Int} (wn : wf64 n) :
    Calls Try.prog 16 #[.pointer (some ⟨d, 0, none⟩), .int .i64 n] w (MovedZ D w0 w d F (armM m n) (.tuple #[])) :=
  h.move M (wf_arm h.wf n) (M.arm h.dv h.wf n wn)
theorem OwnZ.crash (M : ZoneOK D) (h : OwnZ D w0 w d F m) {a : Option Addr} {c : Nat} {ks : List Int} (hk : ks.length ≤ 1000000) (hc : ks.length ≤ c) (hm : c ≤ maxLen) (rd : Ints w0 a ks) :
    Calls Try.prog 17 #[.pointer (some ⟨d, 0, none⟩), .slice a ks.length c] w (MovedZ D w0 w d F (crashM m ks) (.tuple #[])) :=
  h.move M (wf_crash h.wf ks) (M.crash h.dv h.wf a c ks hk hc hm (rd.keep h.fr) (fun h1 b o hb hf => by
    obtain ⟨b', o', e, hx⟩ := rd h1
    obtain rfl : b = b' := by
      rw [hb] at e
      exact congrArg Addr.block (Option.some.inj e)
    have := cell_block (hx 0 ks[0] (List.getElem?_eq_getElem h1)).1
    exact absurd (h.new b hf) (Nat.not_le_of_lt this)))
theorem OwnZ.state (M : ZoneOK D) (h : OwnZ D w0 w d F m) {z : Int} (wz : wf64 z) : Calls Try.prog 21 #[.pointer (some ⟨d, 0, none⟩), .int .i64 z] w (ToldZ D w0 w d F m (.int .i64 (stateM m z))) := h.tell M (M.state h.dv h.wf z wz)
theorem OwnZ.pointer (M : ZoneOK D) (h : OwnZ D w0 w d F m) {z : Int} (wz : wf64 z) : Calls Try.prog 12 #[.pointer (some ⟨d, 0, none⟩), .int .i64 z] w (ToldZ D w0 w d F m (.int .i64 (ptrM m z))) := h.tell M (M.pointer h.dv h.wf z wz)
theorem OwnZ.flushed (M : ZoneOK D) (h : OwnZ D w0 w d F m) {z : Int} (wz : wf64 z) : Calls Try.prog 20 #[.pointer (some ⟨d, 0, none⟩), .int .i64 z] w (ToldZ D w0 w d F m (.int .i64 (fldM m z))) := h.tell M (M.flushed h.dv h.wf z wz)
theorem OwnZ.opened (M : ZoneOK D) (h : OwnZ D w0 w d F m) : Calls Try.prog 22 #[.pointer (some ⟨d, 0, none⟩)] w (ToldZ D w0 w d F m (.int .i64 (Go.Proofs.Ytkoebafalbcnbaa.opened m : Int))) := h.tell M (M.opened h.dv h.wf)
theorem OwnZ.done (M : ZoneOK D) (h : OwnZ D w0 w d F m) : Calls Try.prog 24 #[.pointer (some ⟨d, 0, none⟩)] w (ToldZ D w0 w d F m (.int .i64 (m.done : Int))) := h.tell M (M.done h.dv h.wf)
theorem OwnZ.down (M : ZoneOK D) (h : OwnZ D w0 w d F m) : Calls Try.prog 23 #[.pointer (some ⟨d, 0, none⟩)] w (ToldZ D w0 w d F m (.bool m.down)) := h.tell M (M.down h.dv h.wf)
theorem OwnZ.read (M : ZoneOK D) (h : OwnZ D w0 w d F m) {z t n : Int} (wz : wf64 z) (wt : wf64 t) (wn : wf64 n) :
    Calls Try.prog 18 #[.pointer (some ⟨d, 0, none⟩), .int .i64 z, .int .i64 t, .int .i64 n] w fun e w' => ∃ a c, e = .returned (.tuple #[.slice a (rdB m z t n).length c, .int .i64 (rdErr m z t n)]) ∧ (rdB m z t n).length ≤ c ∧ c ≤ maxLen ∧ In w' (From w.heap.size) a (rdB m z t n) ∧ OwnZ D w0 w' d F m ∧ Fr No w w' :=
  (M.read h.dv h.wf z t n wz wt wn).mono fun e w' ⟨a, c, h1, h2, h3, h4, h5⟩ => ⟨a, c, h1, h2, h3, h4, h.keep M h5, h5⟩
end
theorem newZ (M : ZoneOK D) (z s o : Int) (w : World) (wz : wf64 z) (ws : wf64 s) (wo : wf64 o) (w0 : World) (f : Fr No w0 w) :
    Calls Try.prog 7 #[.agg #[.int .i64 z, .int .i64 s, .int .i64 o]] w fun e w' => Fr No w w' ∧ ((rightG z s o = false ∧ e = .returned (.pointer none)) ∨ (rightG z s o = true ∧ ∃ d F, e = .returned (.pointer (some ⟨d, 0, none⟩)) ∧ OwnZ D w0 w' d F (newM z s o) ∧ ∀ k, F k → w.heap.size ≤ k)) := by
  refine (M.new z s o w wz ws wo).mono fun e w' ⟨h1, h2, h3⟩ => ⟨h1, ?_⟩
  cases h : rightG z s o with
  | false => exact .inl ⟨rfl, h2 h⟩
  | true =>
    obtain ⟨d, F, he, hD, hF⟩ := h3 h
    exact .inr ⟨rfl, d, F, he, ⟨hD, fun k hk => Nat.le_trans f.size (hF k hk), f.trans h1, wf_new h⟩, hF⟩
def g0 : Dev := newM 2 16 1
def g1 : Dev := appM g0 0 [97, 98]
def g2 : Dev := fluM g1
def g3 : Dev := appM g2 0 [99, 100]
def g4 : Dev := crashM g3 [1]
set_option maxRecDepth 20000 in
set_option maxHeartbeats 3200000 in
theorem awake_c (M : ZoneOK D) (w : World) : Calls Try.prog 10 #[] w (Yes w) := by
  have HM := Lib.hid M
  have CN := Lib.hid (newZ M 2 16 1 w (by decide) (by decide) (by decide) w (Fr.refl _ _))
  have kc := fun (w : World) (C : Array Value) (n c : Nat) => Lib.run_convert_bytes_const (P := Try.prog) w 31 5 C n c Try.underlying31 Try.underlying5
  go_enter Try.func10, Try.ntmps10
  go_wp2_with fail
  refine CN.out.mono ?_
  rintro e w1 ⟨_, ⟨h1, _⟩ | ⟨_, d, F1, rfl, h1, _⟩⟩
  · exact absurd h1 (by decide)
  have he : ∀ w : World, (binOp .eql 25 (.pointer (some ⟨d, 0, none⟩)) (.pointer none)).run Try.prog w = .ok (.bool false) w := fun _ => rfl
  have H1 : Hid (OwnZ D w w1 d F1 g0) := Lib.hid h1
  have C1 := Lib.hid (H1.out.appx HM.out (by decide) 0 (by decide) [97, 98] 2 rfl (by omega) (2, 3) 0 (by decide))
  clear h1 CN
  go_wp2_with fail
  refine C1.out.mono ?_
  rintro e w2 ⟨rfl, F2, h2, _, _⟩
  have H2 : Hid (OwnZ D w w2 d F2 g1) := Lib.hid h2
  have C2 := Lib.hid (H2.out.appx HM.out (by decide) 1 (by decide) [120] 1 rfl (by omega) (1, 2) 72 (by decide))
  clear h2 C1
  go_wp2_with fail
  refine C2.out.mono ?_
  rintro e w3 ⟨rfl, F3, h3, _, _⟩
  have H3 : Hid (OwnZ D w w3 d F3 g1) := Lib.hid h3
  have C3 := Lib.hid (H3.out.flush HM.out (by decide))
  rw [show cmdR g1 (fluErr g1) = 0 by decide] at C3
  clear h3 C2
  go_wp2_with fail
  refine C3.out.mono ?_
  rintro e w4 ⟨rfl, F4, h4, _, _⟩
  have H4 : Hid (OwnZ D w w4 d F4 g2) := Lib.hid h4
  have C4 := Lib.hid (H4.out.appx HM.out (by decide) 0 (by decide) [99, 100] 2 rfl (by omega) (2, 3) 0 (by decide))
  clear h4 C3
  go_wp2_with fail
  refine C4.out.mono ?_
  rintro e w5 ⟨rfl, F5, h5, _, _⟩
  have H5 : Hid (OwnZ D w w5 d F5 g3) := Lib.hid h5
  have C5 := Lib.hid (H5.out.crashx HM.out 1 (by decide))
  clear h5 C4
  go_wp2_with fail
  refine C5.out.mono ?_
  rintro e w6 ⟨rfl, F6, h6, _, _⟩
  have H6 : Hid (OwnZ D w w6 d F6 g4) := Lib.hid h6
  have C6 := Lib.hid (H6.out.pointer HM.out (z := 0) (by decide))
  rw [show ptrM g4 0 = 3 by decide] at C6
  clear h6 C5
  go_wp2_with fail
  refine C6.out.mono ?_
  rintro e w7 ⟨rfl, h7, _⟩
  have C7 := Lib.hid (h7.state HM.out (z := 0) (by decide))
  rw [show stateM g4 0 = 1 by decide] at C7
  clear h7 C6
  go_wp2_with fail
  refine C7.out.mono ?_
  rintro e w8 ⟨rfl, h8, _⟩
  have C8 := Lib.hid (h8.opened HM.out)
  rw [show ((opened g4 : Nat) : Int) = 1 by decide] at C8
  clear h8 C7
  go_wp2_with fail
  refine C8.out.mono ?_
  rintro e w9 ⟨rfl, h9, _⟩
  have H9 := Lib.hid h9.fr
  clear h9
  go_wp2_with fail
  go_ret
  exact ⟨rfl, H9.out⟩
end
end Go.Proofs.Ytkoebafalbcnbaa
