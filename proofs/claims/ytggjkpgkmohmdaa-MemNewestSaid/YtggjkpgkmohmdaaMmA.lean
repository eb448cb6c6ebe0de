/-
  Layer 11, the program's own: a table in memory (a list of the keys' texts, and a map from the texts to the entries).
-/
import Derived.Test.YtggjkpgkmohmdaaMeP
import Derived.Test.YtggjkpgkmohmdaaSkQU
import Derived.Test.YtggjkpgkmohmdaaStrOf
import Derived.Maps.Own
import Derived.Maps.Views
namespace Go.Proofs.Ytggjkpgkmohmdaa
set_option linter.unusedVariables false
set_option maxRecDepth 20000
open Go.RowKit Go.Maps

/-! ### Texts of keys stand in the order of the keys. -/
theorem cmpB_lt_iff : ∀ (a b : List UInt8), a < b ↔ cmpB a b < 0
  | [], [] => by
    show _ ↔ (0 : Int) < 0
    simp
  | [], _ :: _ => by
    show _ ↔ (-1 : Int) < 0
    simp
  | _ :: _, [] => by
    show _ ↔ (1 : Int) < 0
    simp
  | x :: a, y :: b => by
    rw [List.cons_lt_cons_iff, cmpB_cons]
    rcases u8_three x y with h | h | h
    · rw [if_pos h]
      simp [h]
    · rw [if_neg (fun h' => UInt8.lt_irrefl _ (UInt8.lt_trans h h')), if_pos h]
      simp only [Int.reduceLT, iff_false]
      rintro (h' | ⟨rfl, _⟩)
      · exact UInt8.lt_irrefl _ (UInt8.lt_trans h h')
      · exact UInt8.lt_irrefl _ h
    · subst h
      rw [if_neg (UInt8.lt_irrefl _), if_neg (UInt8.lt_irrefl _), cmpB_lt_iff a b |>.symm]
      simp [UInt8.lt_irrefl]
/-- The text of an entry's key. -/
def txt (x : Ent) : ByteArray := strOf (encK x.u.data.toList x.q x.k)
theorem EntGood.rt {x : Ent} (h : EntGood x) : Rt x.u.size x.q x.k := ⟨by have := h.1; omega, by have := h.2.1; omega, h.2.2.1, h.2.2.2.1, h.2.2.2.2.1, h.2.2.2.2.2.1⟩
theorem txt_list (x : Ent) : (txt x).data.toList = encK x.u.data.toList x.q x.k := by simp [txt, strOf]
theorem txt_lt {x y : Ent} (hx : EntGood x) (hy : EntGood y) : ltS (txt x) (txt y) = decide (cmpE x y < 0) := by
  rw [ltS_eq]
  unfold ltB
  rw [txt_list, txt_list]
  congr 1
  rw [cmpB_lt_iff, cmpB_encK _ _ _ _ _ _ _ _ hx.rt hy.rt]
  rfl
theorem txt_inj {x y : Ent} (hx : EntGood x) (hy : EntGood y) (h : txt x = txt y) : cmpE x y = 0 := by
  have e : encK x.u.data.toList x.q x.k = encK y.u.data.toList y.q y.k := by rw [← txt_list, ← txt_list, h]
  have := cmpB_encK x.u.data.toList x.q x.k y.u.data.toList y.q y.k _ _ hx.rt hy.rt
  rw [e, cmpB_self] at this
  exact this.symm
theorem txt_size {x : Ent} (h : EntGood x) : (txt x).size ≤ 1000 := by
  have h2 : (txt x).size = (encK x.u.data.toList x.q x.k).length := by rw [← txt_list, ba_len]
  obtain ⟨g1, g2, g3, g4, g5, g6, g7⟩ := h
  have hl := escs_length x.u.data.toList
  rw [ba_len] at hl
  rw [h2]
  unfold encK
  simp only [List.length_append, tailB_length, List.length_cons, List.length_nil]
  omega
/-- The list of texts beside the entries: an insertion in both. -/
theorem insN_txt {x : Ent} {nd : KU.N2} (hk : nd.k = txt x) (hx : EntGood x) : ∀ (ns : List KU.N2) (es : List Ent), (∀ e ∈ es, EntGood e) → ns.map (·.k) = es.map txt → (insN ltS nd ns).map (·.k) = (putL x es).map txt
  | [], [], _, _ => by simp [insN, putL, hk]
  | [], _ :: _, _, h => by simp at h
  | _ :: _, [], _, h => by simp at h
  | n :: ns, e :: es, hg, h => by
    rw [List.map_cons, List.map_cons, List.cons.injEq] at h
    have ih := insN_txt hk hx ns es (fun z hz => hg z (List.mem_cons_of_mem _ hz)) h.2
    have hlt := txt_lt hx (hg e (List.mem_cons_self ..))
    unfold insN putL
    rw [hk, h.1, hlt]
    by_cases hc : cmpE x e < 0
    · rw [if_pos (decide_eq_true hc), if_pos hc]
      simp [hk, h.1, h.2]
    · rw [if_neg (by simpa using hc), if_neg hc, List.map_cons, List.map_cons, ih, h.1]
/-! ### The map. -/
theorem strK : Keyed Try.prog 9 := string_keyed Try.underlying9
def rdV (v : Value) : Option (DataW Value × List MemPlace) := some (.held v, [])
theorem zeroEnt (w : World) : (zeroValue 39).run Try.prog w = .ok (entV ent0) w := by kernel_rfl
/-- A MAP from the texts to their entries. -/
def MapE (w : World) (mb : Nat) (es : List Ent) : Prop := ∃ D : DataW Value, w.ownsMap Try.prog 9 rdV mb es.length D ∧ ∀ x ∈ es, ∀ z, D.atKey (.string (txt x).data.toList) z = .held (entV x)
theorem ownsMap_is {w : World} {mb n : Nat} {D : DataW Value} (h : w.ownsMap Try.prog 9 rdV mb n D) : IsMap D := by
  obtain ⟨es, c, _, _, _, rfl⟩ := h
  exact ⟨_, rfl⟩
theorem MapE.lt {w : World} {mb : Nat} {es : List Ent} (h : MapE w mb es) : mb < w.heap.size := by
  obtain ⟨D, h1, _⟩ := h
  exact h1.lt
theorem MapE.keep {w w' : World} {S : Nat → Prop} {mb : Nat} {es : List Ent} (h : MapE w mb es) (f : Fr S w w') (hn : ¬ S mb) : MapE w' mb es := by
  obtain ⟨D, h1, h2⟩ := h
  refine ⟨D, ?_, h2⟩
  have hlt := h1.lt
  obtain ⟨es, clock, hb, F, hs, hD⟩ := h1
  exact ⟨es, clock, (f.block mb hlt hn).trans hb, F, hs, hD⟩
theorem MapE.cells {w : World} {mb : Nat} {es : List Ent} (h : MapE w mb es) {t : TypeId} {cs : Array Value} (ha : At w mb t cs) : False := by
  obtain ⟨D, ⟨_, _, hb, _⟩, _⟩ := h
  unfold At at ha
  rw [hb] at ha
  cases ha
theorem MapE.look {w : World} {mb : Nat} {es : List Ent} (h : MapE w mb es) {x : Ent} (hx : x ∈ es) (hg : EntGood x) : (Instr.lookup 69 (.map (some mb)) (.string (txt x)) false).run Try.prog w = .ok (entV x) w := by
  obtain ⟨D, h1, h2⟩ := h
  have hkey : keyOf Try.prog 9 (.string (txt x)) = some (.string (txt x).data.toList) := Go.WideMaps.keyOf_string_mk Try.underlying9 (by have := txt_size hg; unfold maxLen; omega)
  obtain ⟨v, ps, hrun, hv⟩ := h1.lookup strK Try.underlying69 (zeroEnt w) (zd := .held (entV ent0)) (zp := []) rfl hkey
  rw [h2 x hx] at hv
  have : v = entV x := by
    have e : (DataW.held v : DataW Value) = .held (entV x) := congrArg (fun p => p.1) (Option.some.inj hv)
    injection e
  rw [this] at hrun
  exact hrun
theorem MapE.put {w : World} {mb : Nat} {es : List Ent} (h : MapE w mb es) (hl : es.length ≤ 1000000) {x : Ent} (hg : EntGood x) (hgs : ∀ e ∈ es, EntGood e) (hne : ∀ e ∈ es, cmpE x e ≠ 0) :
    ∃ w', (Instr.mapUpdate 69 (.map (some mb)) (.string (txt x)) (entV x)).run Try.prog w = .ok () w' ∧ MapE w' mb (putL x es) ∧ Fr (One mb) w w' := by
  obtain ⟨D, h1, h2⟩ := h
  have hkey : keyOf Try.prog 9 (.string (txt x)) = some (.string (txt x).data.toList) := Go.WideMaps.keyOf_string_mk Try.underlying9 (by have := txt_size hg; unfold maxLen; omega)
  obtain ⟨w', hrun, hown, hgrow⟩ := h1.update (val := entV x) (d := .held (entV x)) (ps := []) strK Try.underlying69 (by unfold maxLen; omega) hkey rfl
  refine ⟨w', hrun, ⟨_, by rw [putL_len]; exact hown, fun y hy z => ?_⟩, Fr.grown hgrow fun k hk => by injection hk with hk; exact hk.symm⟩
  rcases putL_mem.1 hy with rfl | hy
  · exact atKey_put_same (ownsMap_is h1) (show WideAt.IsKeyLit (.string (txt y).data.toList) from trivial) _ _
  · rw [atKey_put_other (fun e => hne y hy ?_) _ _]
    · exact h2 y hy z
    · injection e with e
      exact txt_inj hg (hgs y hy) (ba_inj e.symm)
/-! ### The table. -/
structure TabAt (w : World) (t sb hb hs mb : Nat) (ns : List KU.N2) (es : List Ent) (Z : Nat) (la : Int) : Prop where
  tb : At w t 71 #[.pointer (some ⟨sb, 0, none⟩), .map (some mb), .int .i64 (Z : Int), .int .i64 la]
  sk : KU.SkL w sb hb hs ns
  mp : MapE w mb es
  ne : t ≠ mb ∧ ¬ SkOn sb hb hs ns t ∧ ¬ SkOn sb hb hs ns mb
  ks : ns.map (·.k) = es.map txt
  good : ∀ x ∈ es, EntGood x
  srt : Srt es
/-- The blocks that a table stands on. -/
def TabOn (t sb hb hs mb : Nat) (ns : List KU.N2) : Nat → Prop := fun k => k = t ∨ k = mb ∨ SkOn sb hb hs ns k
theorem TabAt.keep {w w' : World} {S : Nat → Prop} {t sb hb hs mb : Nat} {ns : List KU.N2} {es : List Ent} {Z : Nat} {la : Int} (h : TabAt w t sb hb hs mb ns es Z la) (f : Fr S w w') (hn : ∀ k, TabOn t sb hb hs mb ns k → ¬ S k) : TabAt w' t sb hb hs mb ns es Z la :=
  ⟨h.tb.keep f (hn t (.inl rfl)), h.sk.keep f (fun k hk => hn k (.inr (.inr hk))), h.mp.keep f (hn mb (.inr (.inl rfl))), h.ne, h.ks, h.good, h.srt⟩
theorem TabAt.lt {w : World} {t sb hb hs mb : Nat} {ns : List KU.N2} {es : List Ent} {Z : Nat} {la : Int} (h : TabAt w t sb hb hs mb ns es Z la) : ∀ k, TabOn t sb hb hs mb ns k → k < w.heap.size := by
  rintro k (rfl | rfl | hk)
  · exact h.tb.lt
  · exact h.mp.lt
  · exact h.sk.lt_size k hk
/-- A key is put or deleted, nothing else. -/
def KindM (m : Mt) : Prop := ∀ x ∈ m.es, x.k = 1 ∨ x.k = 2
/-- A TABLE OF THE MODEL. -/
def Dm (w : World) (t : Nat) (F : Nat → Prop) (m : Mt) : Prop := ∃ sb hb hs mb ns, TabAt w t sb hb hs mb ns m.es (sizeMt m) m.last ∧ (∀ k, F k ↔ TabOn t sb hb hs mb ns k) ∧ SrtM m ∧ GoodM m m.es.length ∧ KindM m
theorem TabAt.len {w : World} {t sb hb hs mb : Nat} {ns : List KU.N2} {es : List Ent} {Z : Nat} {la : Int} (h : TabAt w t sb hb hs mb ns es Z la) : ns.length = es.length := by
  have := congrArg List.length h.ks
  simpa using this
end Go.Proofs.Ytggjkpgkmohmdaa
