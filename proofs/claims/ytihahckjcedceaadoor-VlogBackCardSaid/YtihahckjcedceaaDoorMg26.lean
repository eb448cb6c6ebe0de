/-
  Texts of layer 14 and of what it stands on, one behind the other.
-/
import Derived.Test.YtihahckjcedceaaDoorMg20
import Derived.Test.YtihahckjcedceaaDoorMg09
import Derived.StillTailTactics
import Derived.Test.YtihahckjcedceaaDoorMg14
import Derived.Test.YtihahckjcedceaaDoorMg02
import Derived.Test.YtihahckjcedceaaDoorMg04
import Derived.Lib.Hide
import Derived.Handy
import Derived.Test.YtihahckjcedceaaDoorCards
import Derived.Test.YtihahckjcedceaaDoorTie
import Derived.Deep.DeepHandedRow

/- Contracts of layer 3's functions that take a key's bytes apart: cutUser, readTail. -/
namespace Go.Proofs.YtihahckjcedceaaDoor
set_option linter.unusedVariables false
open Go.RowKit

def CutRet (l : List UInt8) (w : World) (e : Ending) (w' : World) : Prop := Fr No w w' ∧
  ((cutS [] l = none ∧ e = .returned (.tuple #[.string (strOf []), .slice none 0 0, .bool false])) ∨
   ∃ u t a' n' c', cutS [] l = some (u, t) ∧ t.length = n' ∧ n' ≤ 140737488355328 ∧ n' ≤ c' ∧ Rd w' a' t ∧ e = .returned (.tuple #[.string (strOf u), .slice a' n' c', .bool true]))

theorem sizeU8K (w : World) : (sizeOf 5).run Tryd.prog w = .ok 1 w := size_one cellsU8 (by
  obtain ⟨i0, hi, _, hz1, _⟩ := info_parts infoU8
  exact ⟨i0, hi, hz1⟩) w
set_option maxRecDepth 20000 in
set_option maxHeartbeats 2000000 in
theorem cutUser_c (a : Option Addr) (len cap : Nat) (l : List UInt8) (w : World) (hl : l.length = len) (hcap : len ≤ cap) (hm : len ≤ 140737488355328) (hr : Rd w a l) :
    Calls Tryd.prog 87 #[.slice a len cap] w (CutRet l w) := by
  have HL := Lib.hid hl
  have HR := Lib.hid hr
  clear hl hr
  go_enter Tryd.func87, Tryd.ntmps87
  go_wp2_with fail
  go_loopw [5, 6] (fun u i wr => ∃ (k : Nat) (p : List UInt8), i = .int .i64 k ∧ k ≤ len ∧ Row wr (Gr No w wr) u p ∧ p.length ≤ k ∧ Fr No w wr ∧ cutS [] l = cutS p (l.drop k)) (fun _ i _ => len - (intOf i).toNat)
  case atStart => exact ⟨0, [], rfl, Nat.zero_le _, Row.nil _ _, Nat.le_refl _, Fr.refl _ _, rfl⟩
  case round =>
    obtain ⟨k, p, rfl, hk, hrow, hp, hfr, he⟩ := hrel
    have HE := Lib.hid he
    have HF := Lib.hid hfr
    clear he
    by_cases h1 : k < len
    · have hrd := HR.out.keep hfr
      obtain ⟨b, o, ha, hc⟩ := hrd (by rw [HL.out]; omega)
      subst ha
      have c0 := hc k (by rw [HL.out]; exact h1)
      by_cases h2 : l.getD k 0 = 0
      · have hz : ((l.getD k 0).toNat : Int) = 0 := by rw [h2]; rfl
        rw [hz] at c0
        by_cases h3 : k + 1 < len
        · have c1 := hc (k + 1) (by rw [HL.out]; exact h3)
          have HS := Lib.hid (cutS_zero p l k (by rw [HL.out]; exact h3) h2)
          by_cases h4 : l.getD (k + 1) 0 = 1
          · have h41 : ((l.getD (k + 1) 0).toNat : Int) = 1 := by rw [h4]; rfl
            rw [h41] at c1
            obtain ⟨ua, uc, rfl, hu1, hu2, hin⟩ := hrow.form
            have kc := conv_rd wr.drew ua p.length uc p rfl hin.rd
            have ks := cut_lo (P := Tryd.prog) Tryd.underlying51 sizeU8K (some ⟨b, o, none⟩) len cap (k + 2) (by omega)
            rw [show ((k + 2 : Nat) : Int) = (k : Int) + 2 by omega] at ks
            have hw : IntKind.i64.wrap ((k : Int) + 1 + 1) = (k : Int) + 2 := (IntWalk.i64_in _ ⟨by omega, by omega⟩).trans (by omega)
            have HN : Hid (∀ n, CutRet l w (.returned (.tuple #[.string (strOf p), .slice (cutAt (some ⟨b, o, none⟩) (k + 2) cap) (len - (k + 2)) (cap - (k + 2)), .bool true])) (wr.drewN n)) := Lib.hid fun n => ⟨HF.out.drewN n, .inr ⟨p, l.drop (k + 2), _, _, _, by rw [HE.out, HS.out, if_pos h4], by rw [List.length_drop, HL.out], by omega, by omega, ((HR.out.keep HF.out).drop (k + 2) cap (by rw [HL.out]; exact hcap)), rfl⟩⟩
            clear hrow hfr hin hc hrd
            go_wp2_with fail
            go_still (by kernel_rfl)
            go_wp2_with fail
            go_ret3
            exact HN.out 1
          · have h41 : ¬ (l.getD (k + 1) 0).toNat = 1 := fun e => h4 (UInt8.toNat_inj.1 (e.trans rfl))
            by_cases h5 : l.getD (k + 1) 0 = 255
            · have h51 : ((l.getD (k + 1) 0).toNat : Int) = 255 := by rw [h5]; rfl
              rw [h51] at c1
              obtain ⟨v1, w1, hrun, hrow1, hfr1⟩ := hrow.push gr_lt 0 (by omega)
              rw [show (((0 : UInt8).toNat : Nat) : Int) = 0 from rfl] at hrun
              have HR1 := Lib.hid hrun
              have HW := Lib.hid (hrow1.join hfr.size hfr1.size)
              have HF1 := Lib.hid (hfr.then_ hfr1 fun k hk h => Gr.old hk h)
              have HE2 := Lib.hid (show cutS [] l = cutS (p ++ [0]) (l.drop (k + 2)) by rw [HE.out, HS.out, if_neg h4, if_pos h5])
              clear hrun hrow hrow1 hfr hfr1 hc hrd h41 h4 h5
              go_wp2_with (at_builtin; refine wpList_append_run rfl _ _ 51 rfl rfl rfl HR1.out ?_)
              go_roundw
              case rel => exact ⟨k + 2, p ++ [0], by simp; omega, by omega, HW.out, by simp; omega, HF1.out, HE2.out⟩
              case measure => simp [intOf]; omega
            · have h51 : ¬ (l.getD (k + 1) 0).toNat = 255 := fun e => h5 (UInt8.toNat_inj.1 (e.trans rfl))
              have HN : Hid (CutRet l w (.returned (.tuple #[.string (strOf []), .slice none 0 0, .bool false])) wr) := Lib.hid ⟨HF.out, .inl ⟨by rw [HE.out, HS.out, if_neg h4, if_neg h5], rfl⟩⟩
              generalize (l.getD (k + 1) 0).toNat = m at c1 h41 h51
              have hb : ((m : Int) == 255) = false := by rw [beq_eq_false_iff_ne]; omega
              have hb' : ((m : Int) != 255) = true := by rw [bne_iff_ne]; omega
              clear hrow hfr hc hrd h4 h5
              go_wp2_with fail
              go_ret3
              exact HN.out
        · have hk1 : k + 1 = len := by omega
          have HN : Hid (CutRet l w (.returned (.tuple #[.string (strOf []), .slice none 0 0, .bool false])) wr) := Lib.hid ⟨HF.out, .inl ⟨by rw [HE.out, cutS_last p l k (by rw [HL.out]; exact hk1)], rfl⟩⟩
          subst hk1
          clear hrow hfr hc hrd
          go_wp2_with fail
          go_ret3
          exact HN.out
      · have hz : ¬ (l.getD k 0).toNat = 0 := fun e => h2 (UInt8.toNat_inj.1 (e.trans rfl))
        obtain ⟨v1, w1, hrun, hrow1, hfr1⟩ := hrow.push gr_lt (l.getD k 0) (by omega)
        have HR1 := Lib.hid hrun
        have HW := Lib.hid (hrow1.join hfr.size hfr1.size)
        have HF1 := Lib.hid (hfr.then_ hfr1 fun k hk h => Gr.old hk h)
        have HE2 := Lib.hid (show cutS [] l = cutS (p ++ [l.getD k 0]) (l.drop (k + 1)) by rw [HE.out, cutS_other p l k (by rw [HL.out]; exact h1) h2])
        generalize l.getD k 0 = cc at c0 HR1 HW HE2 hz
        clear hrun hrow hrow1 hfr hfr1 hc hrd h2
        go_wp2_with (at_builtin; refine wpList_append_run rfl _ _ 51 rfl rfl rfl HR1.out ?_)
        go_roundw
        case rel => exact ⟨k + 1, p ++ [cc], by simp, by omega, HW.out, by simp; omega, HF1.out, HE2.out⟩
        case measure => simp [intOf]; omega
    · have HN : Hid (CutRet l w (.returned (.tuple #[.string (strOf []), .slice none 0 0, .bool false])) wr) := Lib.hid ⟨HF.out, .inl ⟨by rw [HE.out, cutS_end p l k (by rw [HL.out]; omega)], rfl⟩⟩
      clear hrow hfr
      go_wp2_with fail
      go_ret3
      exact HN.out
end Go.Proofs.YtihahckjcedceaaDoor

/- Contracts of the document's Right, of a key. -/
namespace Go.Proofs.YtihahckjcedceaaDoor
set_option linter.unusedVariables false
open Go.RowKit

theorem right_yes (s : ByteArray) (q k : Int) (w : World) (h : Rt s.size q k) :
    Calls Tryd.prog 18 #[.agg #[.string s, .int .i64 q, .int .i64 k]] w (PlainRet (.bool true) w) := by
  obtain ⟨h1, h2, h3, h4, h5, h6⟩ := h
  go_enter Tryd.func18, Tryd.ntmps18
  go_wp2_with fail
  go_ret
  exact ⟨by simp [*], (Fr.refl _ _).alloc _⟩
theorem right_no (s : ByteArray) (q k : Int) (w : World) (h : ¬ Rt s.size q k) :
    Calls Tryd.prog 18 #[.agg #[.string s, .int .i64 q, .int .i64 k]] w (PlainRet (.bool false) w) := by
  unfold Rt at h
  have h' : ¬ 1 ≤ (s.size : Int) ∨ (1 ≤ (s.size : Int) ∧ ¬ (s.size : Int) ≤ 64) ∨ (1 ≤ (s.size : Int) ∧ (s.size : Int) ≤ 64 ∧ ¬ 0 ≤ q) ∨ (1 ≤ (s.size : Int) ∧ (s.size : Int) ≤ 64 ∧ 0 ≤ q ∧ ¬ q ≤ 1099511627776) ∨
    (1 ≤ (s.size : Int) ∧ (s.size : Int) ≤ 64 ∧ 0 ≤ q ∧ q ≤ 1099511627776 ∧ ¬ 1 ≤ k) ∨ (1 ≤ (s.size : Int) ∧ (s.size : Int) ≤ 64 ∧ 0 ≤ q ∧ q ≤ 1099511627776 ∧ 1 ≤ k ∧ ¬ k ≤ 3) := by omega
  clear h
  rcases h' with h1 | ⟨h1, h2⟩ | ⟨h1, h2, h3⟩ | ⟨h1, h2, h3, h4⟩ | ⟨h1, h2, h3, h4, h5⟩ | ⟨h1, h2, h3, h4, h5, h6⟩
  all_goals
    go_enter Tryd.func18, Tryd.ntmps18
    go_wp2_with fail
    go_ret
    exact ⟨by simp [*], (Fr.refl _ _).alloc _⟩

end Go.Proofs.YtihahckjcedceaaDoor

/- Layer 11: entries in memory; a row of entries of the call's own; their order. 'tithebarnref11.Entry' and 'mem.Entry' are told apart by the type alone. -/
namespace Go.Proofs.YtihahckjcedceaaDoor
set_option linter.unusedVariables false
open Go.RowKit

/-- An entry: a user's key, its number, its kind, and the value. -/
structure Ent where
  u : ByteArray
  q : Int
  k : Int
  val : ByteArray
def ent0 : Ent := ⟨ByteArray.empty, 0, 0, ByteArray.empty⟩
def entC (x : Ent) : List Value := [.string x.u, .int .i64 x.q, .int .i64 x.k, .string x.val]
def entV (x : Ent) : Value := .agg #[.string x.u, .int .i64 x.q, .int .i64 x.k, .string x.val]
def entsC (l : List Ent) : List Value := l.flatMap entC
def EntWf (x : Ent) : Prop := x.u.size ≤ maxLen ∧ (Lit.int .i64 x.q).wf = true ∧ (Lit.int .i64 x.k).wf = true ∧ x.val.size ≤ maxLen
structure EntAt (w : World) (b o : Nat) (x : Ent) : Prop where
  c0 : w.cell? ⟨b, o, none⟩ = some (.string x.u)
  c1 : w.cell? ⟨b, o + 1, none⟩ = some (.int .i64 x.q)
  c2 : w.cell? ⟨b, o + 2, none⟩ = some (.int .i64 x.k)
  c3 : w.cell? ⟨b, o + 3, none⟩ = some (.string x.val)
/-- ENTRIES that are read, within blocks of S. -/
def Ents (w : World) (S : Nat → Prop) (a : Option Addr) (l : List Ent) : Prop :=
  0 < l.length → ∃ b o, S b ∧ a = some ⟨b, o, none⟩ ∧ ∀ i, i < l.length → EntAt w b (o + i * 4) (l.getD i ent0)
theorem Ents.nil (w : World) (S : Nat → Prop) (a : Option Addr) : Ents w S a [] := fun h => absurd h (by simp)
theorem EntAt.keep {w w' : World} {T : Nat → Prop} {b o : Nat} {x : Ent} (h : EntAt w b o x) (f : Fr T w w') (hn : ¬ T b) : EntAt w' b o x := ⟨f.cell h.c0 hn, f.cell h.c1 hn, f.cell h.c2 hn, f.cell h.c3 hn⟩
theorem Ents.keep {w w' : World} {S T : Nat → Prop} {a : Option Addr} {l : List Ent} (h : Ents w S a l) (f : Fr T w w') (hn : ∀ k, S k → ¬ T k) : Ents w' S a l := fun hl => by
  obtain ⟨b, o, hb, ha, hc⟩ := h hl
  exact ⟨b, o, hb, ha, fun i hi => (hc i hi).keep f (hn b hb)⟩
theorem Ents.sub {w : World} {S T : Nat → Prop} {a : Option Addr} {l : List Ent} (h : Ents w S a l) (hs : ∀ k, k < w.heap.size → S k → T k) : Ents w T a l := fun hl => by
  obtain ⟨b, o, hb, ha, hc⟩ := h hl
  exact ⟨b, o, hs b (cell_block (hc 0 hl).c0) hb, ha, hc⟩
theorem getD_ent (l : List Ent) (i : Nat) (h : i < l.length) : l.getD i ent0 = l[i] := by
  rw [List.getD_eq_getElem?_getD, List.getElem?_eq_getElem h]
  rfl
theorem getD_memE (l : List Ent) (i : Nat) (h : i < l.length) : l.getD i ent0 ∈ l := by
  rw [getD_ent l i h]
  exact List.getElem_mem h
theorem take_ent (l : List Ent) (k : Nat) (h : k < l.length) : l.take (k + 1) = l.take k ++ [l.getD k ent0] := by
  rw [List.take_add_one, List.getElem?_eq_getElem h, getD_ent l k h]
  rfl
theorem drop_ent (l : List Ent) (k : Nat) (h : k < l.length) : l.drop k = l.getD k ent0 :: l.drop (k + 1) := by
  rw [getD_ent l k h]
  exact List.drop_eq_getElem_cons h
theorem entsC_length (l : List Ent) : (entsC l).length = l.length * 4 := by
  induction l with
  | nil => rfl
  | cons p l ih =>
    show (entC p ++ entsC l).length = _
    rw [List.length_append, ih, List.length_cons]
    simp [entC]
    omega
theorem entsC_get (l : List Ent) : ∀ i, i < l.length → (entsC l)[i * 4]? = some (.string (l.getD i ent0).u) ∧ (entsC l)[i * 4 + 1]? = some (.int .i64 (l.getD i ent0).q) ∧ (entsC l)[i * 4 + 2]? = some (.int .i64 (l.getD i ent0).k) ∧ (entsC l)[i * 4 + 3]? = some (.string (l.getD i ent0).val) := by
  induction l with
  | nil => intro i h; simp at h
  | cons p l ih =>
    intro i h
    have hl : (entC p).length = 4 := rfl
    have e : entsC (p :: l) = entC p ++ entsC l := rfl
    cases i with
    | zero => exact ⟨rfl, rfl, rfl, rfl⟩
    | succ i =>
      obtain ⟨h1, h2, h3, h4⟩ := ih i (by simpa using h)
      rw [e]
      refine ⟨?_, ?_, ?_, ?_⟩
      · rw [List.getElem?_append_right (by omega), show (i + 1) * 4 - (entC p).length = i * 4 by omega]; exact h1
      · rw [List.getElem?_append_right (by omega), show (i + 1) * 4 + 1 - (entC p).length = i * 4 + 1 by omega]; exact h2
      · rw [List.getElem?_append_right (by omega), show (i + 1) * 4 + 2 - (entC p).length = i * 4 + 2 by omega]; exact h3
      · rw [List.getElem?_append_right (by omega), show (i + 1) * 4 + 3 - (entC p).length = i * 4 + 3 by omega]; exact h4
theorem entsC_append (l m : List Ent) : entsC (l ++ m) = entsC l ++ entsC m := by simp [entsC]
/-- A row of entries, of the call's own, as it is read. -/
theorem RowG.ents {w : World} {S : Nat → Prop} {e : TypeId} {v : Value} {l : List Ent} (h : RowG w S e 4 v l.length (entsC l)) : ∃ a cap, v = .slice a l.length cap ∧ l.length ≤ cap ∧ cap ≤ maxLen ∧ Ents w S a l := by
  obtain ⟨a, cap, rfl, h1, h2, _, h3⟩ := h.form
  refine ⟨a, cap, rfl, h1, h2, fun hl => ?_⟩
  obtain ⟨b, hb, rfl, hc⟩ := h3 hl
  refine ⟨b, 0, hb, rfl, fun i hi => ?_⟩
  obtain ⟨e1, e2, e3, e4⟩ := entsC_get l i hi
  rw [Nat.zero_add]
  exact ⟨(hc (i * 4) (by omega)).1.trans e1, (hc (i * 4 + 1) (by omega)).1.trans e2, (hc (i * 4 + 2) (by omega)).1.trans e3, (hc (i * 4 + 3) (by omega)).1.trans e4⟩
theorem push_ent {P : Program} {t e : TypeId} {z : Value} {n : Nat} (hT : RowT P t e z 4 n) (hn : n ≤ 1000) (W0 wr : World) (vo : Value) (m : Nat) (o : List Ent) (x : Ent) (hm : o.length = m) (hrow : RowG wr (Gr No W0 wr) e 4 vo m (entsC o)) (hfr : Fr No W0 wr) (hl : m ≤ 1000000) :
    ∃ v' w', (Builtin.append_ #[t, t] t #[vo, .slice (some ⟨wr.heap.size, 0, none⟩) 1 1]).run P (wr.alloc (.cells #[.string x.u, .int .i64 x.q, .int .i64 x.k, .string x.val] e)) = .ok v' w' ∧
      RowG w' (Gr No W0 w') e 4 v' (m + 1) (entsC (o ++ [x])) ∧ Fr No W0 w' := by
  subst hm
  have hb : (o.length + 1) * n ≤ 1000001 * 1000 := Nat.mul_le_mul (by omega) hn
  obtain ⟨v', w', h1, h2, h3⟩ := hrow.push hT (fun q hq => hq.elim (fun h => h.elim) (fun h => h.2)) (entC x) rfl (by intro u hu; simp [entC] at hu; rcases hu with rfl | rfl | rfl | rfl <;> rfl) (by omega) (by omega)
  refine ⟨v', w', h1, ?_, hfr.then_ h3 fun q hq h => h.elim (fun h => h) (fun h => absurd hq (by omega))⟩
  rw [entsC_append]
  have e : entsC [x] = entC x := by simp [entsC]
  rw [e]
  exact h2.join hfr.size h3.size

/-! ### The document's answer, as mathematics. -/
def cmpE (x y : Ent) : Int := cmpK x.u.data.toList x.q x.k y.u.data.toList y.q y.k
def putL (x : Ent) : List Ent → List Ent
  | [] => [x]
  | e :: l => if cmpE x e < 0 then x :: e :: l else e :: putL x l
theorem putL_len (x : Ent) : ∀ l, (putL x l).length = l.length + 1
  | [] => rfl
  | e :: l => by
    unfold putL
    split
    · rfl
    · rw [List.length_cons, putL_len x l, List.length_cons]
theorem putL_mem {x y : Ent} : ∀ {l : List Ent}, y ∈ putL x l ↔ y = x ∨ y ∈ l
  | [] => by simp [putL]
  | e :: l => by
    unfold putL
    split
    · simp
    · rw [List.mem_cons, putL_mem (l := l), List.mem_cons]
      constructor
      · rintro (h | h | h)
        · exact .inr (.inl h)
        · exact .inl h
        · exact .inr (.inr h)
      · rintro (h | h | h)
        · exact .inr (.inl h)
        · exact .inl h
        · exact .inr (.inr h)
/-- Would the entry at place i be taken, if the best so far is b? -/
def takesE (l : List Ent) (user : ByteArray) (at_ : Int) (b : Int) (i : Nat) : Bool :=
  (l.getD i ent0).u = user && decide ((l.getD i ent0).q ≤ at_) && (decide (b < 0) || decide (cmpE (l.getD i ent0) (l.getD b.toNat ent0) < 0))
/-- The best of the first n entries. -/
def bestI (l : List Ent) (user : ByteArray) (at_ : Int) : Nat → Int
  | 0 => -1
  | n + 1 => if takesE l user at_ (bestI l user at_ n) n then (n : Int) else bestI l user at_ n
theorem bestI_lt (l : List Ent) (user : ByteArray) (at_ : Int) : ∀ n, -1 ≤ bestI l user at_ n ∧ bestI l user at_ n < (n : Int)
  | 0 => by simp [bestI]
  | n + 1 => by
    have := bestI_lt l user at_ n
    unfold bestI
    split <;> omega
def getE (l : List Ent) (user : ByteArray) (at_ : Int) : Int := bestI l user at_ l.length
/-- The users' keys that have a value, of the first n. -/
def usersE (l : List Ent) (at_ : Int) : Nat → List ByteArray
  | 0 => []
  | n + 1 => if getE l (l.getD n ent0).u at_ = (n : Int) ∧ (l.getD n ent0).k = 1 then usersE l at_ n ++ [(l.getD n ent0).u] else usersE l at_ n
/-- A row of entries of the call's own comes back, and nothing that was there has turned. -/
def NewEnts (ty : TypeId) (l : List Ent) (w : World) (e : Ending) (w' : World) : Prop := ∃ v, e = .returned v ∧ RowG w' (Gr No w w') ty 4 v l.length (entsC l) ∧ Fr No w w'
end Go.Proofs.YtihahckjcedceaaDoor

/- The table of package sum as each row lists it: its sixteen cells; and a world for the rows' witnesses in which they are laid. -/
namespace Go.Proofs.YtihahckjcedceaaDoor
set_option linter.unusedVariables false
open Go.ChangeShapes Go.WideShapes Go.ChangeAt Go.RowKit

theorem own : ownKnob Tryd.prog.godebug = none := by kernel_rfl
theorem laidOut : laidOutB Tryd.prog = true := by kernel_rfl
theorem gTab : Tryd.prog.globalNamed "tithebarn/sum.nibbles" = some 0 := by kernel_rfl
theorem gTabType : (Tryd.prog.globals[0]?).map (·.type) = some 134 := by kernel_rfl
theorem cellsTab : Tryd.prog.cellsOf 134 = 16 := by kernel_rfl
theorem cellsU32 : Tryd.prog.cellsOf 124 = 1 := by kernel_rfl

theorem table {W : World} (h : laidMetH Tryd.prog [("tithebarn/sum.nibbles", Rows.laid_tithebarn_sum_nibbles)] W) : Tab W := by
  have h1 : Lib.TabIs Tryd.prog W "tithebarn/sum.nibbles" .u32 (Crc.nib.map fun (n : Nat) => (n : Int)) :=
    Lib.tabIs_of_head (rest := []) gTab gTabType Tryd.underlying134 Tryd.underlying124 cellsU32 cellsTab h
  intro i hi
  have h2 := h1.cell gTab i (by simpa [Crc.nib] using hi)
  rw [h2]
  have h3 : ∀ i : Fin 16, (Crc.nib.map fun (n : Nat) => (n : Int)).getD i.val 0 = ((Crc.nibAt i.val : Nat) : Int) := by decide
  rw [h3 ⟨i, hi⟩]

/-- A WORLD FOR THE WITNESSES: the settled one, the table holding what its initialiser lays. -/
noncomputable def laidWorld (os : Os) : World :=
  { World.holding Tryd.prog os ⟨#[], #[], []⟩ with heap := (World.holding Tryd.prog os ⟨#[], #[], []⟩).heap.modify 0 fun
      | .cells _ t frozen => .cells #[.int .u32 0, .int .u32 274646895, .int .u32 549293790, .int .u32 820201905, .int .u32 1098587580, .int .u32 1361435347, .int .u32 1640403810, .int .u32 1905808397, .int .u32 2197175160, .int .u32 2460548119, .int .u32 2722870694, .int .u32 2987750089, .int .u32 3280807620, .int .u32 3553878443, .int .u32 3811616794, .int .u32 4084100981] t frozen
      | o => o }
end Go.Proofs.YtihahckjcedceaaDoor

/- A text that came in, opened. -/
namespace Go.Proofs.YtihahckjcedceaaDoor
set_option linter.unusedVariables false
set_option maxRecDepth 20000
open Go.ChangeShapes Go.WideShapes Go.ChangeAt Go.RowKit Go.Deep

section
variable {H : Type} {enc : TypeId × Value → H} {w : World} {base : Nat} {spare : Nat → Bool} {held : Bool}
theorem text_of {r : Reach} {b0 : Nat} {v : Value} {d : DataW H} {p : List MemPlace}
    (hv : Value.okWide Tryd.prog w r b0 9 v) (h : DataW.Trod enc Tryd.prog w base spare held 9 v d p) : ∃ s : ByteArray, v = .string s ∧ s.size ≤ maxLen := by
  obtain ⟨s, rfl⟩ := okWide_string Tryd.underlying9 hv
  obtain ⟨fuel, hf⟩ := h
  obtain ⟨s', e, _, hs⟩ := DataW.trod_string Tryd.underlying9 hf
  have e' : [Value.string s] = [Value.string s'] := e
  simp only [List.cons.injEq, Value.string.injEq, and_true] at e'
  exact ⟨s, rfl, e' ▸ hs⟩
end
end Go.Proofs.YtihahckjcedceaaDoor
