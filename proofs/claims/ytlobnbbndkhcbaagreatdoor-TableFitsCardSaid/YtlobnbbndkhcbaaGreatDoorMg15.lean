/-
  Texts of layer 13 and of what it stands on, one behind the other.
-/
import Derived.Test.YtlobnbbndkhcbaaGreatDoorMg10
import Derived.Test.YtlobnbbndkhcbaaGreatDoorMg07
import Derived.Lib.SmallJoins
import Derived.Test.YtlobnbbndkhcbaaGreatDoorMg05
import Derived.Deep.QuietTactic
import Derived.BigQuiet
import Derived.Test.YtlobnbbndkhcbaaGreatDoorMg01
import Derived.Lib.Hide
import Derived.Handy
import Derived.Test.YtlobnbbndkhcbaaGreatDoorMg04
import Derived.WalkLawsBesides
import Derived.Lib.Bytealg
import Derived.Lib.BytesEntry
import Derived.StillTailTactics
import Derived.Deep.RegionHeld3
import Derived.Test.YtlobnbbndkhcbaaGreatDoorMg09

/- Layer 13: entries, options and the laws' structs that came in, opened. -/
namespace Go.Proofs.YtlobnbbndkhcbaaGreatDoor
set_option linter.unusedVariables false
open Go.Joins Go.ChangeShapes Go.WideShapes Go.ChangeAt Go.RowKit Go.Deep

/-- Options: what a data block holds, the pairs from one restart to the next, the bits of a key. -/
structure Opt where
  b : Int
  e : Int
  n : Int
def optV (o : Opt) : Value := .agg #[.int .i64 o.b, .int .i64 o.e, .int .i64 o.n]
def OptWf (o : Opt) : Prop := (Lit.int .i64 o.b).wf = true ∧ (Lit.int .i64 o.e).wf = true ∧ (Lit.int .i64 o.n).wf = true
section
variable {H : Type} {enc : TypeId × Value → H} {w : World} {base : Nat} {spare : Nat → Bool} {held : Bool}
set_option maxRecDepth 20000 in
theorem ents_of {fuel : Nat} {v : Value} {y : DataW H × List MemPlace} (h : DataW.trod enc Tryz.prog w base spare held fuel 22 [v] = some y) :
    ∃ a cap l, v = .slice a l.length cap ∧ l.length ≤ cap ∧ cap ≤ maxLen ∧ Ents w (fun _ => True) a l ∧ ∀ x ∈ l, EntWf x := by
  rcases open_slice Tryz.underlying22 h with ⟨hcs, _⟩ | ⟨x, len, cap, m, n, D, Pl, hcs, _, hl, hm, hmm, _, hi⟩
  · cases hcs
    exact ⟨none, 0, [], rfl, Nat.le_refl _, by unfold maxLen; omega, fun h => absurd h (by simp), fun x h => absurd h (List.not_mem_nil)⟩
  · cases hcs
    have hml : len ≤ m := by rw [hmm]; split <;> omega
    have hc : Tryz.prog.cellsOf 49 = 4 := by kernel_rfl
    rw [hc] at hi
    obtain ⟨b, off, spot⟩ := x
    have hspot : 0 < len → spot = none := by
      intro h0
      obtain ⟨cs', h1, h2⟩ := hi 0 (by omega)
      obtain ⟨_, hcl, hat⟩ := World.cells?_some h1
      have h3 := hat 0 (by omega)
      rw [List.getElem?_eq_getElem (show 0 < cs'.length by omega)] at h3
      have := World.cell?_spot h3
      simpa [Addr.add] using this
    have hx : ∀ i, i < len → ∃ x : Ent, spot = none ∧ EntAt w b (off + i * 4) x ∧ EntWf x := by
      intro i hil
      have hs := hspot (by omega)
      subst hs
      obtain ⟨cs', h1, h2⟩ := hi i (by omega)
      obtain ⟨_, hcl, hat⟩ := World.cells?_some h1
      obtain ⟨xs, n', hn', hy, hlen, hyl, hf⟩ := DataW.trod_struct Tryz.underlying49 h2
      have a0 := hat 0 (by omega)
      have a1 := hat 1 (by omega)
      have a2 := hat 2 (by omega)
      have a3 := hat 3 (by omega)
      match cs', hcl with
      | [u0, u1, u2, u3], _ =>
        rw [add_plain, add_plain] at a0 a1 a2 a3
        have f0 := hf 0 _ rfl
        have f1 := hf 1 _ rfl
        match xs, hyl with
        | [x0, x1], _ =>
          have f0 : DataW.trod enc Tryz.prog w base spare held n' 46 [u0, u1, u2] = some x0 := f0
          obtain ⟨ys, n'', hn2, hy2, hlen2, hyl2, hf2⟩ := DataW.trod_struct Tryz.underlying46 f0
          have k0 := hf2 0 _ rfl
          have k1 := hf2 1 _ rfl
          have k2 := hf2 2 _ rfl
          match ys, hyl2 with
          | [y0, y1, y2], _ =>
            obtain ⟨m0, hm0, _, w0⟩ := DataW.trod_string Tryz.underlying9 k0
            obtain ⟨m1, hm1, _, w1⟩ := DataW.trod_int Tryz.underlying3 k1
            obtain ⟨m2, hm2, _, w2⟩ := DataW.trod_int Tryz.underlying3 k2
            obtain ⟨m3, hm3, _, w3⟩ := DataW.trod_string Tryz.underlying9 f1
            have e0 : u0 = .string m0 := by
              have : [u0] = [Value.string m0] := hm0
              simpa using this
            have e1 : u1 = .int .i64 m1 := by
              have : [u1] = [Value.int .i64 m1] := hm1
              simpa using this
            have e2 : u2 = .int .i64 m2 := by
              have : [u2] = [Value.int .i64 m2] := hm2
              simpa using this
            have e3 : u3 = .string m3 := by
              have : [u3] = [Value.string m3] := hm3
              simpa using this
            subst e0 e1 e2 e3
            exact ⟨⟨m0, m1, m2, m3⟩, rfl, ⟨a0, a1, a2, a3⟩, w0, w1, w2, w3⟩
    obtain ⟨l, hll, hlp⟩ := list_of len hx
    refine ⟨some ⟨b, off, spot⟩, cap, l, by rw [hll], by omega, hm, fun h0 => ?_, ?_⟩
    · have hs : spot = none := (hlp 0 (l[0]'h0) (List.getElem?_eq_getElem h0)).1
      subst hs
      exact ⟨b, off, trivial, rfl, fun i hi => (hlp i _ (by rw [getD_ent l i hi]; exact List.getElem?_eq_getElem hi)).2.1⟩
    · intro x hx
      obtain ⟨i, hi, rfl⟩ := List.getElem_of_mem hx
      exact (hlp i _ (List.getElem?_eq_getElem hi)).2.2
set_option maxRecDepth 20000 in
theorem opt_cells {fuel : Nat} {u0 u1 u2 : Value} {y : DataW H × List MemPlace} (h : DataW.trod enc Tryz.prog w base spare held fuel 24 [u0, u1, u2] = some y) :
    ∃ o : Opt, u0 = .int .i64 o.b ∧ u1 = .int .i64 o.e ∧ u2 = .int .i64 o.n ∧ OptWf o := by
  obtain ⟨ys, n'', hn2, hy2, hlen2, hyl2, hf2⟩ := DataW.trod_struct Tryz.underlying24 h
  have k0 := hf2 0 _ rfl
  have k1 := hf2 1 _ rfl
  have k2 := hf2 2 _ rfl
  match ys, hyl2 with
  | [y0, y1, y2], _ =>
    obtain ⟨m0, hm0, _, w0⟩ := DataW.trod_int Tryz.underlying3 k0
    obtain ⟨m1, hm1, _, w1⟩ := DataW.trod_int Tryz.underlying3 k1
    obtain ⟨m2, hm2, _, w2⟩ := DataW.trod_int Tryz.underlying3 k2
    have e0 : u0 = .int .i64 m0 := by
      have : [u0] = [Value.int .i64 m0] := hm0
      simpa using this
    have e1 : u1 = .int .i64 m1 := by
      have : [u1] = [Value.int .i64 m1] := hm1
      simpa using this
    have e2 : u2 = .int .i64 m2 := by
      have : [u2] = [Value.int .i64 m2] := hm2
      simpa using this
    exact ⟨⟨m0, m1, m2⟩, e0, e1, e2, w0, w1, w2⟩
set_option maxRecDepth 20000 in
theorem opts_of {r : Reach} {b0 : Nat} {v : Value} {d : DataW H} {p : List MemPlace}
    (hv : Value.okWide Tryz.prog w r b0 24 v) (h : DataW.Trod enc Tryz.prog w base spare held 24 v d p) : ∃ o, v = optV o ∧ OptWf o := by
  obtain ⟨v0, v1, v2, y0, y1, y2, n, rfl, _, _, h0, h1, h2⟩ := open_agg3 (Tryz.underlying24) (by kernel_rfl) (by kernel_rfl) hv h
  obtain ⟨m0, hm0, _, w0⟩ := DataW.trod_int Tryz.underlying3 h0
  obtain ⟨m1, hm1, _, w1⟩ := DataW.trod_int Tryz.underlying3 h1
  obtain ⟨m2, hm2, _, w2⟩ := DataW.trod_int Tryz.underlying3 h2
  simp only [List.cons.injEq, and_true] at hm0 hm1 hm2
  subst hm0 hm1 hm2
  exact ⟨⟨m0, m1, m2⟩, rfl, w0, w1, w2⟩
end
end Go.Proofs.YtlobnbbndkhcbaaGreatDoor

/- Layer 13: right entries and options; what the laws ask of package table (TableOK). -/
namespace Go.Proofs.YtlobnbbndkhcbaaGreatDoor
set_option linter.unusedVariables false
open Go.RowKit

/-! ### Right options, right entries. -/
def OkO (o : Opt) : Prop := 16 ≤ o.b ∧ o.b ≤ 65536 ∧ 1 ≤ o.e ∧ o.e ≤ 64 ∧ 1 ≤ o.n ∧ o.n ≤ 32
instance (o : Opt) : Decidable (OkO o) := by unfold OkO; infer_instance
def RtE (x : Ent) : Prop := Rt x.u.size x.q x.k
instance (x : Ent) : Decidable (RtE x) := by unfold RtE Rt; infer_instance
def RightL (l : List Ent) : Prop := (∀ i, i < l.length → RtE (l.getD i ent0) ∧ (1 ≤ i → cmpE (l.getD (i - 1) ent0) (l.getD i ent0) < 0)) ∧ 1 ≤ l.length ∧ l.length ≤ 65536
instance (l : List Ent) : Decidable (RightL l) := by unfold RightL; infer_instance
/-- What may be gone through. -/
def LoE (l : List Ent) : Prop := ∀ x ∈ l, x.u.size ≤ 200 ∧ x.val.size ≤ 300
def buildTE (TB : List Ent → Opt → List UInt8) (l : List Ent) (o : Opt) (most : Int) : Int := if ¬ OkO o then 70 else if ¬ RightL l then 130 else if most < (TB l o).length then 201 else 0
/-- What Build answers. -/
def BuildT (TB : List Ent → Opt → List UInt8) (l : List Ent) (o : Opt) (most : Int) (w : World) (en : Ending) (w' : World) : Prop :=
  ∃ v, en = .returned (.tuple #[v, .int .i64 (buildTE TB l o most)]) ∧ RowQ w' (Gr No w w') v (if buildTE TB l o most = 0 then TB l o else []) ∧ Fr No w w'
/-- What Open answers. -/
def OpenT (TB : List Ent → Opt → List UInt8) (NB : List Ent → Opt → Nat) (T : World → Nat → (Nat → Prop) → List Ent → Nat → Prop) (b : List UInt8) (w : World) (en : Ending) (w' : World) : Prop :=
  (∃ t F l c, en = .returned (.tuple #[.pointer (some ⟨t, 0, none⟩), .int .i64 0]) ∧ T w' t F l c ∧ (∀ k, F k → w.heap.size ≤ k) ∧ RightL l ∧ (∀ x ∈ l, EntWf x) ∧ 1 ≤ c ∧ c ≤ l.length ∧ 24 ≤ b.length ∧ (∀ l' o', OkO o' → RightL l' → TB l' o' = b → l' = l ∧ NB l' o' = c) ∧ Fr No w w') ∨
  ((∀ l' o', OkO o' → RightL l' → TB l' o' ≠ b) ∧ en = .returned (.tuple #[.pointer none, .int .i64 130]) ∧ Fr No w w')
def fitN (TB : List Ent → Opt → List UInt8) (l : List Ent) (o : Opt) (most : Int) : Nat → Nat
  | 0 => 0
  | k + 1 => if buildTE TB (l.take (k + 1)) o most = 0 then k + 1 else fitN TB l o most k
def gotE (l : List Ent) (u : ByteArray) (at_ : Int) : Ent := if getE l u at_ < 0 then ent0 else l.getD (getE l u at_).toNat ent0
def keyV (x : Ent) : Value := .agg #[.string x.u, .int .i64 x.q, .int .i64 x.k]
/-- The world's part that the calls read: package sum's table; a parameter. -/
structure TableCore (TB : List Ent → Opt → List UInt8) (NB : List Ent → Opt → Nat) (Tb : World → Prop) (T : World → Nat → (Nat → Prop) → List Ent → Nat → Prop) : Prop where
  tabK : ∀ {w w' : World}, Tb w → Fr No w w' → Tb w'
  keep : ∀ {w w' : World} {t : Nat} {F S : Nat → Prop} {l : List Ent} {c : Nat}, T w t F l c → Fr S w w' → (∀ k, F k → ¬ S k) → T w' t F l c
  lenB : ∀ l o, OkO o → RightL l → LoE l → l.length ≤ 60 → (TB l o).length ≤ 50000
  lenA : ∀ x o, OkO o → RtE x → x.u.size ≤ 1 → x.val.size ≤ 1 → (TB [x] o).length ≤ 1000
  numA : ∀ x o, OkO o → RtE x → NB [x] o = 1
  cmp : ∀ (w : World) (u u' : ByteArray) (q k q' k' : Int), Calls Tryz.prog 32 #[.agg #[.string u, .int .i64 q, .int .i64 k], .agg #[.string u', .int .i64 q', .int .i64 k']] w (PlainRet (.int .i64 (cmpK u.data.toList q k u'.data.toList q' k')) w)
  check : ∀ (w : World) (o : Opt), OptWf o → Calls Tryz.prog 14 #[optV o] w (PlainRet (.bool (decide (OkO o))) w)
  build : ∀ (w : World) (S : Nat → Prop) (a : Option Addr) (n cap : Nat) (l : List Ent) (o : Opt) (most : Int), Tb w → l.length = n → n ≤ cap → cap ≤ maxLen → n ≤ 60 → LoE l → Ents w S a l → (∀ x ∈ l, EntWf x) → OptWf o → (Lit.int .i64 most).wf = true →
    Calls Tryz.prog 11 #[.slice a n cap, optV o, .int .i64 most] w (BuildT TB l o most w)
  open_ : ∀ (w : World) (a : Option Addr) (n cap : Nat) (b : List UInt8), Tb w → b.length = n → n ≤ cap → cap ≤ maxLen → n ≤ 50000 → Rd w a b →
    Calls Tryz.prog 18 #[.slice a n cap] w (OpenT TB NB T b w)
  len : ∀ (w : World) (t : Nat) (F : Nat → Prop) (l : List Ent) (c : Nat), T w t F l c → Calls Tryz.prog 21 #[.pointer (some ⟨t, 0, none⟩)] w (PlainRet (.int .i64 (l.length : Int)) w)
  blocks : ∀ (w : World) (t : Nat) (F : Nat → Prop) (l : List Ent) (c : Nat), T w t F l c → Calls Tryz.prog 22 #[.pointer (some ⟨t, 0, none⟩)] w (PlainRet (.int .i64 (c : Int)) w)
  small : ∀ (w : World) (t : Nat) (F : Nat → Prop) (l : List Ent) (c : Nat), T w t F l c → Calls Tryz.prog 24 #[.pointer (some ⟨t, 0, none⟩)] w (PlainRet (keyV (l.getD 0 ent0)) w)
  large : ∀ (w : World) (t : Nat) (F : Nat → Prop) (l : List Ent) (c : Nat), T w t F l c → Calls Tryz.prog 25 #[.pointer (some ⟨t, 0, none⟩)] w (PlainRet (keyV (l.getD (l.length - 1) ent0)) w)
  entries : ∀ (w : World) (t : Nat) (F : Nat → Prop) (l : List Ent) (c : Nat), T w t F l c → Calls Tryz.prog 20 #[.pointer (some ⟨t, 0, none⟩)] w (NewEnts 49 l w)
  get : ∀ (w : World) (t : Nat) (F : Nat → Prop) (l : List Ent) (c : Nat) (u : ByteArray) (at_ : Int), T w t F l c → u.size ≤ 300 → (Lit.int .i64 at_).wf = true → Calls Tryz.prog 27 #[.pointer (some ⟨t, 0, none⟩), .string u, .int .i64 at_] w (PlainRet (.tuple #[entV (gotE l u at_), .bool (decide (0 ≤ getE l u at_))]) w)
end Go.Proofs.YtlobnbbndkhcbaaGreatDoor

/- Layer 3: Check of a key. -/
namespace Go.Proofs.YtlobnbbndkhcbaaGreatDoor
set_option linter.unusedVariables false
open Go.RowKit

theorem check_yes (s : ByteArray) (q k : Int) (w : World) (h : Rt s.size q k) :
    Calls Tryz.prog 98 #[.agg #[.string s, .int .i64 q, .int .i64 k]] w (PlainRet (.int .i64 0) w) := by
  obtain ⟨h1, h2, h3, h4, h5, h6⟩ := h
  go_enter Tryz.func98, Tryz.ntmps98
  go_wp2_with fail
  go_ret
  exact ⟨rfl, (Fr.refl _ _).alloc _⟩
theorem check_no (s : ByteArray) (q k : Int) (w : World) (h : ¬ Rt s.size q k) :
    Calls Tryz.prog 98 #[.agg #[.string s, .int .i64 q, .int .i64 k]] w (PlainRet (.int .i64 30) w) := by
  unfold Rt at h
  have h' : ¬ 1 ≤ (s.size : Int) ∨ (1 ≤ (s.size : Int) ∧ ¬ (s.size : Int) ≤ 64) ∨ (1 ≤ (s.size : Int) ∧ (s.size : Int) ≤ 64 ∧ ¬ 0 ≤ q) ∨ (1 ≤ (s.size : Int) ∧ (s.size : Int) ≤ 64 ∧ 0 ≤ q ∧ ¬ q ≤ 1099511627776) ∨
    (1 ≤ (s.size : Int) ∧ (s.size : Int) ≤ 64 ∧ 0 ≤ q ∧ q ≤ 1099511627776 ∧ ¬ 1 ≤ k) ∨ (1 ≤ (s.size : Int) ∧ (s.size : Int) ≤ 64 ∧ 0 ≤ q ∧ q ≤ 1099511627776 ∧ 1 ≤ k ∧ ¬ k ≤ 3) := by omega
  clear h
  rcases h' with h1 | ⟨h1, h2⟩ | ⟨h1, h2, h3⟩ | ⟨h1, h2, h3, h4⟩ | ⟨h1, h2, h3, h4, h5⟩ | ⟨h1, h2, h3, h4, h5, h6⟩
  all_goals
    go_enter Tryz.func98, Tryz.ntmps98
    go_wp2_with fail
    go_ret
    exact ⟨rfl, (Fr.refl _ _).alloc _⟩
end Go.Proofs.YtlobnbbndkhcbaaGreatDoor

/- Contract of layer 3's order: the document's Order. -/
namespace Go.Proofs.YtlobnbbndkhcbaaGreatDoor
set_option linter.unusedVariables false
open Go.RowKit

set_option maxRecDepth 20000 in
theorem order_c (s t : ByteArray) (hs : s.size ≤ maxLen) (ht : t.size ≤ maxLen) (w : World) :
    Calls Tryz.prog 63 #[.string s, .string t] w (PlainRet (.int .i64 (Lib.compareBytes s.data.toList t.data.toList)) w) := by
  unfold maxLen at hs ht
  go_enter Tryz.func63, Tryz.ntmps63
  go_wp2_with fail
  go_loopw [5] (fun i wr => ∃ k : Nat, i = .int .i64 k ∧ k ≤ s.size ∧ k ≤ t.size ∧ Fr No w wr ∧ Lib.compareBytes s.data.toList t.data.toList = Lib.compareBytes (s.data.toList.drop k) (t.data.toList.drop k)) (fun i _ => s.size - (intOf i).toNat)
  case atStart => exact ⟨0, rfl, Nat.zero_le _, Nat.zero_le _, Fr.refl _ _, rfl⟩
  case round =>
    obtain ⟨k, rfl, hk, hk', hfr, he⟩ := hrel
    have HF := Lib.hid hfr
    have HE := Lib.hid he
    clear hfr he
    by_cases h1 : k < s.size
    · by_cases h2 : k < t.size
      · have e1 := ba_getD s k h1
        have e2 := ba_getD t k h2
        have ST := cmpB_step s.data.toList t.data.toList k (by rw [ba_len]; exact h1) (by rw [ba_len]; exact h2) HE.out
        rw [e1, e2] at ST
        have HS := Lib.hid ST
        clear ST e1 e2
        by_cases h3 : s[k].toNat < t[k].toNat
        · have HR := Lib.hid (HS.out.1 (by omega))
          go_wp2_with fail
          go_quiet (fail)
          go_wp2_with fail
          go_ret
          exact ⟨congrArg (fun x => Ending.returned (Value.int .i64 x)) HR.out.symm, HF.out.drewN _⟩
        · by_cases h4 : t[k].toNat < s[k].toNat
          · have HR := Lib.hid (HS.out.2.1 (by omega))
            go_wp2_with fail
            go_quiet (fail)
            go_wp2_with fail
            go_quiet (fail)
            go_wp2_with fail
            go_ret
            exact ⟨congrArg (fun x => Ending.returned (Value.int .i64 x)) HR.out.symm, (HF.out.drewN _).drewN _⟩
          · have HR := Lib.hid (HS.out.2.2 (by omega) (by omega))
            go_wp2_with fail
            go_quiet (fail)
            go_wp2_with fail
            go_quiet (fail)
            go_wp2_with fail
            go_roundw
            case rel => exact ⟨k + 1, by simp, by omega, by omega, HF.out.drewN _, HR.out⟩
            case measure => simp [intOf]; omega
      · have HR := Lib.hid (cmpB_drop s.data.toList t.data.toList k (.inr (by rw [ba_len]; omega)) (by rw [ba_len]; omega) (by rw [ba_len]; omega) HE.out)
        rw [ba_len, ba_len] at HR
        have h5 : ¬ s.size < t.size := by omega
        have h6 : t.size < s.size := by omega
        go_wp2_with fail
        go_ret
        exact ⟨congrArg (fun x => Ending.returned (Value.int .i64 x)) (HR.out.trans (by unfold cmpI; rw [if_neg (by omega), if_pos (by omega)])).symm, HF.out⟩
    · have HR := Lib.hid (cmpB_drop s.data.toList t.data.toList k (.inl (by rw [ba_len]; omega)) (by rw [ba_len]; omega) (by rw [ba_len]; omega) HE.out)
      rw [ba_len, ba_len] at HR
      by_cases h5 : s.size < t.size
      · go_wp2_with fail
        go_ret
        exact ⟨congrArg (fun x => Ending.returned (Value.int .i64 x)) (HR.out.trans (by unfold cmpI; rw [if_pos (by omega)])).symm, HF.out⟩
      · go_wp2_with fail
        go_ret
        exact ⟨congrArg (fun x => Ending.returned (Value.int .i64 x)) (HR.out.trans (by unfold cmpI; rw [if_neg (by omega), if_neg (by omega)])).symm, HF.out⟩
theorem orderE_c (s t : ByteArray) (hs : s.size ≤ maxLen) (ht : t.size ≤ maxLen) (w : World) :
    Calls Tryz.prog 33 #[.string s, .string t] w (PlainRet (.int .i64 (Lib.compareBytes s.data.toList t.data.toList)) w) := by
  have C := Lib.hid (order_c s t hs ht w)
  clear hs ht
  go_enter Tryz.func33, Tryz.ntmps33
  go_wp2_with fail
  refine C.out.mono ?_
  rintro e w' ⟨rfl, hf⟩
  go_wp2_with fail
  go_ret
  exact ⟨rfl, hf⟩
end Go.Proofs.YtlobnbbndkhcbaaGreatDoor

/- Contract of layer 3's order of keys: the document's Cmp. -/
namespace Go.Proofs.YtlobnbbndkhcbaaGreatDoor
set_option linter.unusedVariables false
open Go.RowKit

/-- The document's Cmp. -/
theorem cmp_ways (c q k q' k' : Int) : (c ≠ 0 ∧ orI c (cmpI q' q) (cmpI k' k) = c) ∨ (c = 0 ∧ q' < q ∧ orI c (cmpI q' q) (cmpI k' k) = -1) ∨ (c = 0 ∧ ¬ q' < q ∧ q < q' ∧ orI c (cmpI q' q) (cmpI k' k) = 1) ∨
      (c = 0 ∧ ¬ q' < q ∧ ¬ q < q' ∧ k' < k ∧ orI c (cmpI q' q) (cmpI k' k) = -1) ∨ (c = 0 ∧ ¬ q' < q ∧ ¬ q < q' ∧ ¬ k' < k ∧ k < k' ∧ orI c (cmpI q' q) (cmpI k' k) = 1) ∨
      (c = 0 ∧ ¬ q' < q ∧ ¬ q < q' ∧ ¬ k' < k ∧ ¬ k < k' ∧ orI c (cmpI q' q) (cmpI k' k) = 0) := by
  unfold orI
  by_cases hc : c = 0
  · rw [if_pos hc]
    rcases cmpI_cases q' q with ⟨a1, a2⟩ | ⟨a1, a2, a3⟩ | ⟨a1, a2⟩
    · rw [if_neg (by omega)]; omega
    · rw [if_neg (by omega)]; omega
    · rw [if_pos a2]
      rcases cmpI_cases k' k with ⟨b1, b2⟩ | ⟨b1, b2, b3⟩ | ⟨b1, b2⟩ <;> omega
  · rw [if_neg hc]; omega
set_option maxHeartbeats 2000000 in
set_option maxRecDepth 20000 in
theorem refCmp_c (s s' : ByteArray) (q k q' k' : Int) (hs : s.size ≤ maxLen) (hs' : s'.size ≤ maxLen) (w : World) :
    Calls Tryz.prog 41 #[.agg #[.string s, .int .i64 q, .int .i64 k], .agg #[.string s', .int .i64 q', .int .i64 k']] w (PlainRet (.int .i64 (cmpK s.data.toList q k s'.data.toList q' k')) w) := by
  obtain ⟨c, hc⟩ : ∃ c, Lib.compareBytes s.data.toList s'.data.toList = c := ⟨_, rfl⟩
  have C := fun w => order_c s s' hs hs' w
  rw [hc] at C
  have C := Lib.hid C
  have hK : cmpK s.data.toList q k s'.data.toList q' k' = orI c (cmpI q' q) (cmpI k' k) := congrArg (fun x => orI x (cmpI q' q) (cmpI k' k)) hc
  rw [hK]
  clear hK hc hs hs'
  have hcs := cmp_ways c q k q' k'
  rcases hcs with ⟨h1, h0⟩ | ⟨h1, h2, h0⟩ | ⟨h1, h2, h3, h0⟩ | ⟨h1, h2, h3, h4, h0⟩ | ⟨h1, h2, h3, h4, h5, h0⟩ | ⟨h1, h2, h3, h4, h5, h0⟩
  all_goals
    rw [h0]
    clear h0
    try subst h1
    go_enter Tryz.func41, Tryz.ntmps41
    go_wp2_with fail
    refine (C.out _).mono ?_
    rintro e w' ⟨rfl, hf⟩
    have HF := Lib.hid ((((Fr.refl No w).alloc _).alloc _).trans hf)
    have A1 : At w' w.heap.size 83 #[.string s, .int .i64 q, .int .i64 k] := ((At.new w _ _).keep ((Fr.refl No _).alloc _) (fun h => h)).keep hf (fun h => h)
    have A2 : At w' (w.heap.size + 1) 83 #[.string s', .int .i64 q', .int .i64 k'] := by
      have := (At.new (w.alloc (.cells #[.string s, .int .i64 q, .int .i64 k] 83)) 83 #[.string s', .int .i64 q', .int .i64 k']).keep hf (fun h => h)
      simpa using this
    have a1 := A1.cell 1
    have a2 := A1.cell 2
    have b1 := A2.cell 1
    have b2 := A2.cell 2
    simp at a1 a2 b1 b2
    clear A1 A2 hf
    go_wp2_with fail
    go_ret
    exact ⟨rfl, HF.out⟩
end Go.Proofs.YtlobnbbndkhcbaaGreatDoor

/- A value comes back, and nothing that was there has turned. -/
namespace Go.Proofs.YtlobnbbndkhcbaaGreatDoor
set_option linter.unusedVariables false

/-- A value comes back, and nothing that was there has turned. -/
def Ask (v : Value) (w : World) (e : Ending) (w' : World) : Prop := e = .returned v ∧ Fr No w w'

theorem toList_eq_iff (s t : ByteArray) : (s.toList == t.toList) = decide (s = t) := by
  rw [ByteArray.toList_eq, ByteArray.toList_eq]
  rcases s with ⟨⟨l⟩⟩
  rcases t with ⟨⟨m⟩⟩
  by_cases h : l = m
  · subst h; simp
  · simp [h]
end Go.Proofs.YtlobnbbndkhcbaaGreatDoor

/- Contracts of the standard library's Compare (integers, texts) and Or. -/
namespace Go.Proofs.YtlobnbbndkhcbaaGreatDoor
set_option linter.unusedVariables false
open Go.RowKit

theorem isNaN_c (x : Int) (w : World) : Calls Tryz.prog 97 #[.int .i64 x] w fun e w' => e = .returned (.bool false) ∧ w = w' := by
  go_enter Tryz.func97, Tryz.ntmps97
  go_wp2_with fail
  go_ret
  exact ⟨by simp, rfl⟩
theorem compareInt_c (x y : Int) (w : World) : Calls Tryz.prog 62 #[.int .i64 x, .int .i64 y] w fun e w' => e = .returned (.int .i64 (cmpI x y)) ∧ w = w' := by
  have h : (x < y ∧ cmpI x y = -1) ∨ (¬ x < y ∧ y < x ∧ cmpI x y = 1) ∨ (¬ x < y ∧ ¬ y < x ∧ cmpI x y = 0) := by
    unfold cmpI
    by_cases h1 : x < y
    · exact .inl ⟨h1, if_pos h1⟩
    · by_cases h2 : y < x
      · exact .inr (.inl ⟨h1, h2, by rw [if_neg h1, if_pos h2]⟩)
      · exact .inr (.inr ⟨h1, h2, by rw [if_neg h1, if_neg h2]⟩)
  rcases h with ⟨h1, h0⟩ | ⟨h1, h2, h0⟩ | ⟨h1, h2, h0⟩
  all_goals
    rw [h0]
    clear h0
    go_enter Tryz.func62, Tryz.ntmps62
    go_wp2_with (go_at_call 97; refine (isNaN_c _ _).mono ?_; rintro e w' ⟨rfl, rfl⟩)
    go_ret
    exact ⟨rfl, rfl⟩
set_option maxRecDepth 20000 in
theorem compareString_c (a b : ByteArray) (w : World) :
    Calls Tryz.prog 96 #[.string a, .string b] w fun e w' => e = .returned (.int .i64 (Lib.compareBytes a.data.toList b.data.toList)) ∧ w = w' := by
  go_enter Tryz.func96, Tryz.ntmps96
  go_wp2_with fail
  rw [run_callFunc_extern Tryz.func124 (by kernel_rfl) (by kernel_rfl) (by kernel_rfl) (e := Extern.BytealgCompare.compare) (by kernel_rfl), Lib.run_compareString]
  simp only [Result.andThen]
  rw [Oper.upon_value]
  go_wp2_with fail
  go_ret
  exact ⟨rfl, rfl⟩
set_option maxRecDepth 20000 in
theorem stringsCompare_c (a b : ByteArray) (w : World) :
    Calls Tryz.prog 61 #[.string a, .string b] w fun e w' => e = .returned (.int .i64 (Lib.compareBytes a.data.toList b.data.toList)) ∧ w = w' := by
  go_enter Tryz.func61, Tryz.ntmps61
  go_wp2_with (go_at_call 96; refine (compareString_c _ _ _).mono ?_; rintro e w' ⟨rfl, rfl⟩)
  go_ret
  exact ⟨rfl, rfl⟩
set_option maxRecDepth 20000 in
theorem or_c (b : Nat) (t : TypeId) (x y z : Int) (w : World) (h : At w b t #[.int .i64 x, .int .i64 y, .int .i64 z]) :
    Calls Tryz.prog 60 #[.slice (some ⟨b, 0, none⟩) 3 3] w fun e w' => e = .returned (.int .i64 (orI x y z)) ∧ w = w' := by
  have c0 : w.cell? ⟨b, 0, none⟩ = some (.int .i64 x) := At.cell h 0
  have c1 : w.cell? ⟨b, 1, none⟩ = some (.int .i64 y) := At.cell h 1
  have c2 : w.cell? ⟨b, 2, none⟩ = some (.int .i64 z) := At.cell h 2
  clear h
  have hc : (¬ x = 0 ∧ orI x y z = x) ∨ (x = 0 ∧ ¬ y = 0 ∧ orI x y z = y) ∨ (x = 0 ∧ y = 0 ∧ ¬ z = 0 ∧ orI x y z = z) ∨ (x = 0 ∧ y = 0 ∧ z = 0 ∧ orI x y z = 0) := by
    unfold orI
    by_cases hx : x = 0
    · by_cases hy : y = 0
      · by_cases hz : z = 0
        · exact .inr (.inr (.inr ⟨hx, hy, hz, by simp [hx, hy, hz]⟩))
        · exact .inr (.inr (.inl ⟨hx, hy, hz, by simp [hx, hy]⟩))
      · exact .inr (.inl ⟨hx, hy, by simp [hx, hy]⟩)
    · exact .inl ⟨hx, by simp [hx]⟩
  rcases hc with ⟨h1, h0⟩ | ⟨h1, h2, h0⟩ | ⟨h1, h2, h3, h0⟩ | ⟨h1, h2, h3, h0⟩
  all_goals
    rw [h0]
    clear h0
    go_enter Tryz.func60, Tryz.ntmps60
    go_wp2_with fail
    refine wp_loop_rounds 4 ?_
    rw [rounds_succ]
    go_wp2_with fail
    try rw [rounds_succ]
    try go_wp2_with fail
    try rw [rounds_succ]
    try go_wp2_with fail
    try rw [rounds_succ]
    try go_wp2_with fail
    go_ret
    exact ⟨rfl, rfl⟩
end Go.Proofs.YtlobnbbndkhcbaaGreatDoor

/- Contracts of layer 3's orders: the document's Order and Cmp, and Cmp. -/
namespace Go.Proofs.YtlobnbbndkhcbaaGreatDoor
set_option linter.unusedVariables false
open Go.RowKit

theorem still_of {f : FuncId} {args : Array Value} {w : World} {v : Value} (h : Calls Tryz.prog f args w fun e w' => e = .returned v ∧ w = w') :
    Calls Tryz.prog f args w fun e w' => e = .returned v ∧ w' = w := h.mono fun _ _ ⟨he, hw⟩ => ⟨he, hw.symm⟩
set_option maxRecDepth 20000 in
theorem cmp_c (s s' : ByteArray) (q k q' k' : Int) (w : World) :
    Calls Tryz.prog 32 #[.agg #[.string s, .int .i64 q, .int .i64 k], .agg #[.string s', .int .i64 q', .int .i64 k']] w (PlainRet (.int .i64 (cmpK s.data.toList q k s'.data.toList q' k')) w) := by
  go_enter Tryz.func32, Tryz.ntmps32
  go_wp2_with fail
  have F := ((Fr.refl No w).alloc (.cells #[.string s, .int .i64 q, .int .i64 k] 46)).alloc (.cells #[.string s', .int .i64 q', .int .i64 k'] 46)
  have A1 : At _ _ _ _ := (At.new w 46 #[.string s, .int .i64 q, .int .i64 k]).keep ((Fr.refl No _).alloc (.cells #[.string s', .int .i64 q', .int .i64 k'] 46)) (fun h => h)
  have A2 : At _ _ _ _ := At.new (w.alloc (.cells #[.string s, .int .i64 q, .int .i64 k] 46)) 46 #[.string s', .int .i64 q', .int .i64 k']
  simp only [World.size_alloc] at A2
  generalize ((w.alloc (.cells #[.string s, .int .i64 q, .int .i64 k] 46)).alloc (.cells #[.string s', .int .i64 q', .int .i64 k'] 46)) = W at *
  have a0 := A1.cell 0
  have a1 := A1.cell 1
  have a2 := A1.cell 2
  have b0 := A2.cell 0
  have b1 := A2.cell 1
  have b2 := A2.cell 2
  simp at a0 a1 a2 b0 b1 b2
  clear A1 A2
  go_still_tail 15, (by kernel_rfl)
  still_call (still_of (stringsCompare_c _ _ _))
  repeat still_step
  still_call (still_of (compareInt_c _ _ _))
  repeat still_step
  still_call (still_of (compareInt_c _ _ _))
  repeat still_step
  refine wpStill_nil ?_
  go_wp2_with fail
  refine Calls.mono (or_c _ 3 _ _ _ _ (show At (World.drew _) _ _ _ from At.new W 3 _)) ?_
  rintro e w' ⟨rfl, rfl⟩
  go_wp2_with fail
  go_ret
  exact ⟨rfl, (F.alloc _).drew⟩

end Go.Proofs.YtlobnbbndkhcbaaGreatDoor

/- Arguments opened: slices of bytes' slices; and that they read on as long as what was there stays. -/
namespace Go.Proofs.YtlobnbbndkhcbaaGreatDoor
set_option linter.unusedVariables false
open Go.ChangeShapes Go.WideShapes Go.ChangeAt Go.RowKit Go.Deep

/-- Texts. -/
structure Tx where
  a : Option Addr
  c : Nat
  b : List UInt8
structure TxAt (w : World) (b o : Nat) (x : Tx) : Prop where
  c0 : w.cell? ⟨b, o, none⟩ = some (.slice x.a x.b.length x.c)
  le : x.b.length ≤ x.c
  cm : x.c ≤ maxLen
  rd : Rd w x.a x.b
theorem TxAt.keep {w w' : World} {b o : Nat} {x : Tx} (h : TxAt w b o x) (f : Fr No w w') : TxAt w' b o x :=
  ⟨f.cell h.c0 (fun h => h), h.le, h.cm, h.rd.keep f⟩
def Texts (w : World) (a : Option Addr) (l : List Tx) : Prop := 0 < l.length → ∃ b o, a = some ⟨b, o, none⟩ ∧ ∀ i x, l[i]? = some x → TxAt w b (o + i) x
theorem Texts.keep {w w' : World} {a : Option Addr} {l : List Tx} (h : Texts w a l) (f : Fr No w w') : Texts w' a l := fun hl => by
  obtain ⟨b, o, ha, hx⟩ := h hl
  exact ⟨b, o, ha, fun i x hi => (hx i x hi).keep f⟩
section
variable {H : Type} {enc : TypeId × Value → H} {w : World} {base : Nat} {spare : Nat → Bool} {held : Bool}
theorem texts_of {fuel : Nat} {v : Value} {y : DataW H × List MemPlace} (h : DataW.trod enc Tryz.prog w base spare held fuel 133 [v] = some y) :
    ∃ a cap l, v = .slice a l.length cap ∧ l.length ≤ cap ∧ cap ≤ maxLen ∧ Texts w a l := by
  rcases open_slice Tryz.underlying133 h with ⟨hcs, _⟩ | ⟨x, len, cap, m, n, D, Pl, hcs, _, hl, hm, hmm, _, hi⟩
  · cases hcs
    exact ⟨none, 0, [], rfl, Nat.le_refl _, by simp [maxLen], fun h => absurd h (by simp)⟩
  · cases hcs
    have hml : len ≤ m := by rw [hmm]; split <;> omega
    have hc : Tryz.prog.cellsOf 27 = 1 := by kernel_rfl
    rw [hc] at hi
    obtain ⟨b, off, spot⟩ := x
    have hspot : 0 < len → spot = none := by
      intro h0
      obtain ⟨cs', h1, h2⟩ := hi 0 (by omega)
      obtain ⟨_, hcl, hat⟩ := World.cells?_some h1
      have h3 := hat 0 (by omega)
      rw [List.getElem?_eq_getElem (show 0 < cs'.length by omega)] at h3
      have := World.cell?_spot h3
      simpa [Addr.add] using this
    have hx : ∀ i, i < len → ∃ x : Tx, spot = none ∧ TxAt w b (off + i) x := by
      intro i hil
      have hs := hspot (by omega)
      subst hs
      obtain ⟨cs', h1, h2⟩ := hi i (by omega)
      obtain ⟨_, hcl, hat⟩ := World.cells?_some h1
      have h3 := hat 0 (by omega)
      match cs', hcl with
      | [u], _ =>
        obtain ⟨a, c, l, rfl, g1, g2, g3⟩ := bytes_of h2
        rw [add_plain, add_plain] at h3
        have h4 : w.cell? ⟨b, off + i, none⟩ = some (.slice a l.length c) := by simpa using h3
        exact ⟨⟨a, c, l⟩, rfl, h4, g1, g2, g3⟩
    obtain ⟨l, hll, hlp⟩ := list_of len hx
    refine ⟨some ⟨b, off, spot⟩, cap, l, by rw [hll], by omega, hm, fun h0 => ?_⟩
    have hs : spot = none := (hlp 0 (l[0]'h0) (List.getElem?_eq_getElem h0)).1
    subst hs
    exact ⟨b, off, rfl, fun i x hx => (hlp i x hx).2⟩
end
end Go.Proofs.YtlobnbbndkhcbaaGreatDoor
