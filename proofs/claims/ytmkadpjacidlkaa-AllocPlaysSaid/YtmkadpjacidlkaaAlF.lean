/-
  Layer 8: a table and a device of the call's own, side by side; each call's contract in one form.
-/
import Derived.Test.YtmkadpjacidlkaaAlD
import Derived.Test.YtmkadpjacidlkaaMemI
namespace Go.Proofs.Ytmkadpjacidlkaa
set_option linter.unusedVariables false
open Go.RowKit

/-! ### Lengths. -/
theorem len_take (b : Tb) (x : Int) : (takT b x).r.length = b.r.length := by unfold takT setT; split <;> simp
theorem len_own (b : Tb) (z x : Int) : (ownT b z x).r.length = b.r.length := by unfold ownT setT; split <;> simp
theorem len_rel (b : Tb) (z : Int) : (relT b z).r.length = b.r.length := by unfold relT; split <;> simp
theorem len_rst (b : Tb) (m : Dev) : (rstT b m).r.length = b.r.length := by
  unfold rstT
  split
  · rfl
  · split <;> simp
theorem len_pow (m : Dev) : (powM m).zs.length = m.zs.length := by unfold powM; split <;> rfl
theorem len_res (m : Dev) (z : Int) : (resM m z).zs.length = m.zs.length := by
  unfold resM
  split
  · split
    · rw [len_pow]; simp [setZ]
    · exact len_pow m
  · rfl
theorem len_rstM (b : Tb) (m : Dev) : (rstM b m).zs.length = m.zs.length := by
  unfold rstM
  split
  · rfl
  · exact len_res m _
theorem len_app (m : Dev) (z : Int) (x : List UInt8) : (appM m z x).zs.length = m.zs.length := by
  unfold appM
  split
  · rw [len_pow]; simp [setZ]
  · rfl
/-- How many commands were done rises by one at most. -/
theorem done_pow (m : Dev) : (powM m).done ≤ m.done + 1 := by
  unfold powM
  split
  · exact Nat.le_refl _
  · exact Nat.le_succ _
  · exact Nat.le_refl _
theorem done_res (m : Dev) (z : Int) : (resM m z).done ≤ m.done + 1 := by
  unfold resM
  split
  · split
    · exact done_pow (setZ m z zn0)
    · exact done_pow m
  · exact Nat.le_succ _
theorem done_rst (b : Tb) (m : Dev) : (rstM b m).done ≤ m.done + 1 := by
  unfold rstM
  split
  · exact Nat.le_succ _
  · exact done_res m _
theorem done_app (m : Dev) (z : Int) (x : List UInt8) : (appM m z x).done ≤ m.done + 1 := by
  unfold appM
  split
  · exact done_pow (setZ m z (appZ m z x))
  · exact Nat.le_succ _
theorem wf_rst {b : Tb} {m : Dev} (h : WF m) : WF (rstM b m) := by
  unfold rstM
  split
  · exact h
  · exact wf_res h _

/-- A TABLE AND A DEVICE of the call's own. -/
structure Own2 (D : World → Nat → (Nat → Prop) → Dev → Prop) (T : World → Nat → (Nat → Prop) → Tb → Prop) (w0 w : World) (t : Nat) (F : Nat → Prop) (b : Tb) (d : Nat) (G : Nat → Prop) (m : Dev) : Prop where
  tb : OwnT T w0 w t F b
  dv : OwnZ D w0 w d G m
  dj : ∀ k, F k → ¬ G k
  len : m.zs.length = b.r.length
def Mov2 (D : World → Nat → (Nat → Prop) → Dev → Prop) (T : World → Nat → (Nat → Prop) → Tb → Prop) (w0 w : World) (t : Nat) (F : Nat → Prop) (b : Tb) (d : Nat) (G : Nat → Prop) (m : Dev) (v : Value) (e : Ending) (w' : World) : Prop :=
  e = .returned v ∧ ∃ F' G', Own2 D T w0 w' t F' b d G' m ∧ (∀ k, F' k → F k ∨ w.heap.size ≤ k) ∧ (∀ k, G' k → G k ∨ w.heap.size ≤ k) ∧ Fr (Two F G) w w'
section
variable {D : World → Nat → (Nat → Prop) → Dev → Prop} {T : World → Nat → (Nat → Prop) → Tb → Prop} {w0 w : World} {t : Nat} {F : Nat → Prop} {b : Tb} {d : Nat} {G : Nat → Prop} {m : Dev}
theorem Own2.start (M : AllocOK D T) {w1 w2 : World} (h1 : OwnT T w0 w1 t F b) (f : Fr No w1 w2) (h2 : OwnZ D w0 w2 d G m) (h3 : ∀ k, G k → w1.heap.size ≤ k) (hl : m.zs.length = b.r.length) : Own2 D T w0 w2 t F b d G m :=
  ⟨h1.keep M f, h2, fun k hf hg => h1.low M k (h3 k hg) hf, hl⟩
theorem Own2.keep (M : ZoneOK D) (A : AllocOK D T) {w' : World} (h : Own2 D T w0 w t F b d G m) (f : Fr No w w') : Own2 D T w0 w' t F b d G m := ⟨h.tb.keep A f, h.dv.keep M f, h.dj, h.len⟩
theorem Own2.fr (h : Own2 D T w0 w t F b d G m) : Fr No w0 w := h.tb.fr
theorem Own2.moveT (M : ZoneOK D) (A : AllocOK D T) {b' : Tb} (h : Own2 D T w0 w t F b d G m) (hl : b'.r.length = b.r.length) {f : FuncId} {args : Array Value} {v : Value} (c : Calls Try.prog f args w (MovedT T w0 w t F b' v)) : Calls Try.prog f args w (Mov2 D T w0 w t F b' d G m v) :=
  c.mono fun e w' ⟨h1, F', h2, h3, h4⟩ => ⟨h1, F', G, ⟨h2, ⟨M.keep h.dv.dv h4 fun k hg hf => h.dj k hf hg, h.dv.new, h.dv.fr.then_ h4 fun x hx hf => absurd (h.tb.new x hf) (by omega), h.dv.wf⟩, fun k hf hg => (h3 k hf).elim (fun h5 => h.dj k h5 hg) (fun h5 => h.dv.low M k h5 hg), by rw [hl]; exact h.len⟩, h3, fun k hk => .inl hk, h4.sub fun k _ hk => .inl hk⟩
theorem Own2.moveZ (M : ZoneOK D) (A : AllocOK D T) {m' : Dev} (h : Own2 D T w0 w t F b d G m) (hl : m'.zs.length = m.zs.length) {f : FuncId} {args : Array Value} {v : Value} {W : World} (c : Calls Try.prog f args W (MovedZ D w0 w d G m' v)) : Calls Try.prog f args W (Mov2 D T w0 w t F b d G m' v) :=
  c.mono fun e w' ⟨h1, G', h2, h3, h4⟩ => ⟨h1, F, G', ⟨⟨A.keep h.tb.tb h4 fun k hf hg => h.dj k hf hg, h.tb.new, h.tb.fr.then_ h4 fun x hx hf => absurd (h.dv.new x hf) (by omega), h.tb.wt⟩, h2, fun k hf hg => (h3 k hg).elim (fun h5 => h.dj k hf h5) (fun h5 => h.tb.low A k h5 hf), by rw [hl]; exact h.len⟩, fun k hk => .inl hk, h3, h4.sub fun k _ hk => .inr hk⟩
theorem Own2.tellT (M : ZoneOK D) (A : AllocOK D T) (h : Own2 D T w0 w t F b d G m) {f : FuncId} {args : Array Value} {v : Value} (c : Calls Try.prog f args w (ToldT T w0 w t F b v)) : Calls Try.prog f args w (Mov2 D T w0 w t F b d G m v) :=
  c.mono fun e w' ⟨h1, h2, h3⟩ => ⟨h1, F, G, h.keep M A h3, fun k hk => .inl hk, fun k hk => .inl hk, h3.sub fun _ _ h => h.elim⟩
theorem Own2.tellZ (M : ZoneOK D) (A : AllocOK D T) (h : Own2 D T w0 w t F b d G m) {f : FuncId} {args : Array Value} {v : Value} (c : Calls Try.prog f args w (ToldZ D w0 w d G m v)) : Calls Try.prog f args w (Mov2 D T w0 w t F b d G m v) :=
  c.mono fun e w' ⟨h1, h2, h3⟩ => ⟨h1, F, G, h.keep M A h3, fun k hk => .inl hk, fun k hk => .inl hk, h3.sub fun _ _ h => h.elim⟩
variable (M : ZoneOK D) (A : AllocOK D T) (h : Own2 D T w0 w t F b d G m)
include M A h
theorem Own2.take {x : Int} (wx : wf64 x) : Calls Try.prog 7 #[.pointer (some ⟨t, 0, none⟩), .int .i64 x] w (Mov2 D T w0 w t F (takT b x) d G m (.tuple #[.int .i64 (takZ b x), .int .i64 (takE b x)])) := h.moveT M A (len_take b x) (h.tb.take A wx)
theorem Own2.own {z x : Int} (wz : wf64 z) (wx : wf64 x) : Calls Try.prog 9 #[.pointer (some ⟨t, 0, none⟩), .int .i64 z, .int .i64 x] w (Mov2 D T w0 w t F (ownT b z x) d G m (.int .i64 (ownE b z x))) := h.moveT M A (len_own b z x) (h.tb.own A wz wx)
theorem Own2.release {z : Int} (wz : wf64 z) : Calls Try.prog 11 #[.pointer (some ⟨t, 0, none⟩), .int .i64 z] w (Mov2 D T w0 w t F (relT b z) d G m (.int .i64 (relE b z))) := h.moveT M A (len_rel b z) (h.tb.release A wz)
theorem Own2.role {z : Int} (wz : wf64 z) : Calls Try.prog 22 #[.pointer (some ⟨t, 0, none⟩), .int .i64 z] w (Mov2 D T w0 w t F b d G m (.int .i64 (roleT b z))) := h.tellT M A (h.tb.role A wz)
theorem Own2.count {x : Int} (wx : wf64 x) : Calls Try.prog 24 #[.pointer (some ⟨t, 0, none⟩), .int .i64 x] w (Mov2 D T w0 w t F b d G m (.int .i64 (countT b x : Int))) := h.tellT M A (h.tb.count A wx)
theorem Own2.rebuild : Calls Try.prog 16 #[.pointer (some ⟨t, 0, none⟩), .pointer (some ⟨d, 0, none⟩)] w (Mov2 D T w0 w t F (rebT b m) d G m (.int .i64 ((rebL b m).length : Int))) :=
  h.moveT M A (reb_len b m) (h.tb.move A (wt_reb h.tb.wt m) (A.rebuild h.tb.tb h.tb.wt h.dv.dv h.dv.wf h.len h.dj))
omit M in
theorem Own2.reset (hd : m.done < 1000000) : Calls Try.prog 13 #[.pointer (some ⟨t, 0, none⟩), .pointer (some ⟨d, 0, none⟩)] w (Mov2 D T w0 w t F (rstT b m) d G (rstM b m) (.tuple #[.int .i64 (rstZ b m), .int .i64 (rstE b m)])) :=
  (A.reset h.tb.tb h.tb.wt h.dv.dv h.dv.wf hd h.dj).mono fun e w' ⟨h1, F', G', h2, h3, h4, h5, h6, h7⟩ => by
    have hfr : Fr No w0 w' := h.tb.fr.then_ h7 fun x hx hf => hf.elim (fun hf => absurd (h.tb.new x hf) (by omega)) (fun hf => absurd (h.dv.new x hf) (by omega))
    have hsz := h.tb.fr.size
    exact ⟨h1, F', G', ⟨⟨h2, fun k hk => (h4 k hk).elim (h.tb.new k) (fun h5 => Nat.le_trans hsz h5.1), hfr, wt_rst h.tb.wt m⟩, ⟨h3, fun k hk => (h5 k hk).elim (h.dv.new k) (fun h5 => Nat.le_trans hsz h5.1), hfr, wf_rst h.dv.wf⟩, h6, by rw [len_rstM, len_rst]; exact h.len⟩,
      fun k hk => (h4 k hk).elim .inl (fun h5 => .inr h5.1), fun k hk => (h5 k hk).elim .inl (fun h5 => .inr h5.1), h7⟩
theorem Own2.list {x : Int} (wx : wf64 x) : Calls Try.prog 25 #[.pointer (some ⟨t, 0, none⟩), .int .i64 x] w fun e w' => IntsRet (listT b x) w e w' ∧ Own2 D T w0 w' t F b d G m :=
  (h.tb.list A wx).mono fun e w' ⟨⟨a, c, h1, h2, h3, h4, h5⟩, _⟩ => ⟨⟨a, c, h1, h2, h3, h4, h5⟩, h.keep M A h5⟩
theorem Own2.queue : Calls Try.prog 21 #[.pointer (some ⟨t, 0, none⟩)] w fun e w' => IntsRet b.q w e w' ∧ Own2 D T w0 w' t F b d G m :=
  (h.tb.queue A).mono fun e w' ⟨⟨a, c, h1, h2, h3, h4, h5⟩, _⟩ => ⟨⟨a, c, h1, h2, h3, h4, h5⟩, h.keep M A h5⟩
theorem Own2.state {z : Int} (wz : wf64 z) : Calls Try.prog 15 #[.pointer (some ⟨d, 0, none⟩), .int .i64 z] w (Mov2 D T w0 w t F b d G m (.int .i64 (stateM m z))) := h.tellZ M A (h.dv.state M wz)
theorem Own2.down : Calls Try.prog 14 #[.pointer (some ⟨d, 0, none⟩)] w (Mov2 D T w0 w t F b d G m (.bool m.down)) := h.tellZ M A (h.dv.down M)
theorem Own2.arm {n : Int} (wn : wf64 n) : Calls Try.prog 18 #[.pointer (some ⟨d, 0, none⟩), .int .i64 n] w (Mov2 D T w0 w t F b d G (armM m n) (.tuple #[])) := h.moveZ M A (m' := armM m n) rfl (h.dv.arm M wn)
theorem Own2.appx (hd : m.done < 1000000) (z : Int) (wz : wf64 z) (x : List UInt8) (n : Nat) (hn : x.length = n) (hs : n ≤ 1000) (fr : Nat × Nat) (r : Int) (hr : cmdR m (appErr m z x) = r) :
    Calls Try.prog 17 #[.pointer (some ⟨d, 0, none⟩), .int .i64 z, .slice (some ⟨w.heap.size, 0, none⟩) n n] (w.alloc (.cells (x.map byt).toArray 5 fr)) (Mov2 D T w0 w t F b d G (appM m z x) (.int .i64 r)) := h.moveZ M A (len_app m z x) (h.dv.appx M hd z wz x n hn hs fr r hr)
theorem Own2.crashN : Calls Try.prog 19 #[.pointer (some ⟨d, 0, none⟩), .slice none 0 0] w (Mov2 D T w0 w t F b d G (crashM m []) (.tuple #[])) :=
  h.moveZ M A (m' := crashM m []) (crashL_length ..) (h.dv.crash M (a := none) (c := 0) (ks := []) (by simp) (Nat.le_refl _) (by simp [maxLen]) (fun h => absurd h (by simp)))
end
/-! ### A row of numbers beside them. -/
theorem RowI.ints {w : World} {S : Nat → Prop} {v : Value} {l : List Int} (h : RowI w S v l) (hw : ∀ x ∈ l, wf64 x) : ∃ a c, v = .slice a l.length c ∧ l.length ≤ c ∧ c ≤ maxLen ∧ Ints w a l := by
  obtain ⟨a, c, h1, h2, h3, h4⟩ := h.form
  refine ⟨a, c, h1, h2, h3, fun hl => ?_⟩
  obtain ⟨b, o, _, ha, hc⟩ := h4 hl
  refine ⟨b, o, ha, fun i x hx => ?_⟩
  have hi : i < l.length := by
    rcases Nat.lt_or_ge i l.length with h | h
    · exact h
    · rw [List.getElem?_eq_none h] at hx; cases hx
  have := hc i hi
  rw [List.getD_eq_getElem?_getD, hx] at this
  exact ⟨this, hw x (List.mem_of_getElem? hx)⟩
/-! ### What lies beside them. -/
def Bes (R : World → (Nat → Prop) → Prop) (W w : World) (F G : Nat → Prop) : Prop := ∃ S, R w S ∧ ∀ x, S x → ¬ F x ∧ ¬ G x ∧ W.heap.size ≤ x ∧ x < w.heap.size
structure Keeps (R : World → (Nat → Prop) → Prop) : Prop where
  k : ∀ {w w' : World} {S T : Nat → Prop}, R w S → Fr T w w' → (∀ b, S b → ¬ T b) → R w' S
theorem keepsI (v : Value) (l : List Int) : Keeps fun w S => RowI w S v l := ⟨fun h f hn => h.keep f hn⟩
theorem keepsG (e : TypeId) (k : Nat) (v : Value) (n : Nat) (cs : List Value) : Keeps fun w S => RowG w S e k v n cs := ⟨fun h f hn => h.keep f hn⟩
theorem Bes.step {R : World → (Nat → Prop) → Prop} {W w w' : World} {F G F' G' : Nat → Prop} (K : Keeps R) (h : Bes R W w F G) (h1 : ∀ k, F' k → F k ∨ w.heap.size ≤ k) (h2 : ∀ k, G' k → G k ∨ w.heap.size ≤ k) (f : Fr (Two F G) w w') : Bes R W w' F' G' := by
  obtain ⟨S, hr, hS⟩ := h
  refine ⟨S, K.k hr f fun x hx hh => hh.elim (hS x hx).1 (hS x hx).2.1, fun x hx => ?_⟩
  obtain ⟨s1, s2, s3, s4⟩ := hS x hx
  have := f.size
  exact ⟨fun h => (h1 x h).elim s1 (fun h => by omega), fun h => (h2 x h).elim s2 (fun h => by omega), s3, by omega⟩
theorem Bes.quiet {R : World → (Nat → Prop) → Prop} {W w w' : World} {F G : Nat → Prop} (K : Keeps R) (h : Bes R W w F G) (f : Fr No w w') : Bes R W w' F G := h.step K (fun _ h => .inl h) (fun _ h => .inl h) (f.sub fun _ _ h => h.elim)
theorem Own2.turnS {D : World → Nat → (Nat → Prop) → Dev → Prop} {T : World → Nat → (Nat → Prop) → Tb → Prop} {w0 w w' : World} {t : Nat} {F : Nat → Prop} {b : Tb} {d : Nat} {G : Nat → Prop} {m : Dev} (M : ZoneOK D) (A : AllocOK D T) {S : Nat → Prop}
    (h : Own2 D T w0 w t F b d G m) (f : Fr S w w') (hS : ∀ x, S x → ¬ F x ∧ ¬ G x ∧ w0.heap.size ≤ x ∧ x < w.heap.size) : Own2 D T w0 w' t F b d G m :=
  ⟨h.tb.keepS A f (fun x hf hs => (hS x hs).1 hf) (fun x hs => (hS x hs).2.2.1), ⟨M.keep h.dv.dv f (fun x hg hs => (hS x hs).2.1 hg), h.dv.new, h.dv.fr.then_ f (fun x hx hs => absurd (hS x hs).2.2.1 (by omega)), h.dv.wf⟩, h.dj, h.len⟩
end Go.Proofs.Ytmkadpjacidlkaa
