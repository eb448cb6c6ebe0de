/-
  Layer 10, the program's own: Find.
-/
import Derived.Test.YtidfjcaajejfoaaBcE
import Derived.Test.YtidfjcaajejfoaaRngB
import Derived.Test.YtidfjcaajejfoaaBaFi
namespace Go.Proofs.Ytidfjcaajejfoaa
set_option linter.unusedVariables false
open Go.RowKit Go.Shelf
attribute [local go_sem] Oper.semAt_some

theorem infoOpS : (Try.prog.info? 30).map (·.size) = some 3 := by kernel_rfl
theorem find_results (tmps : Array Value) (w : World) (g g' : Nat) (x y z e : Value) (hp : tmps.getD 4 undef = .pointer (some ⟨g, 0, none⟩)) (he : tmps.getD 5 undef = .pointer (some ⟨g', 0, none⟩)) (hg : At w g 30 #[x, y, z]) (hg' : w.cell? ⟨g', 0, none⟩ = some e) :
    (results Try.f25 tmps).run Try.prog w = .ok (.tuple #[.agg #[x, y, z], e]) w := by
  have hp' : tmps[4]?.getD undef = .pointer (some ⟨g, 0, none⟩) := by simpa using hp
  have he' : tmps[5]?.getD undef = .pointer (some ⟨g', 0, none⟩) := by simpa using he
  have hl := run_loadVar_row (P := Try.prog) w g 30 30 #[x, y, z] (0, 0) _ hg Try.underlying30 rfl infoOpS
  have hb : (loadVar 4 ⟨g', 0, none⟩).run Try.prog w = .ok e w := by
    simp [loadVar, isAgg, run_underlying Try.underlying4, hg', Result.andThen, go_sem]
  simp [results, Try.results25, hp', he', asAddr, hl, hb]
/-- The boxes of a Find: what is sought, and what is told. -/
structure FdS (w : World) (q : Int) (v : Value) (key : ByteArray) (x : Op10) (ok : Bool) (W : World) : Prop where
  b0 : At W w.heap.size 24 #[.int .i64 q, v]
  b1 : At W (w.heap.size + 1) 9 #[.string key]
  b2 : At W (w.heap.size + 1 + 1) 30 #[.int .i64 x.k, .string x.key, .string x.val]
  b3 : At W (w.heap.size + 1 + 1 + 1) 4 #[.bool ok]
def f4 (w : World) (q : Int) (v : Value) (key : ByteArray) : World := (((w.alloc (.cells #[.int .i64 q, v] 24)).alloc (.cells #[.string key] 9)).alloc (.cells #[.int .i64 0, .string ⟨#[]⟩, .string ⟨#[]⟩] 30)).alloc (.cells #[.bool false] 4)
theorem f4_ok (w : World) (q : Int) (v : Value) (key : ByteArray) : FdS w q v key op0 false (f4 w q v key) ∧ Fr No w (f4 w q v key) ∧ (f4 w q v key).heap.size = w.heap.size + 4 := by
  obtain ⟨wa, ha⟩ : ∃ wa, w.alloc (.cells #[.int .i64 q, v] 24) = wa := ⟨_, rfl⟩
  obtain ⟨wb, hb⟩ : ∃ wb, wa.alloc (.cells #[.string key] 9) = wb := ⟨_, rfl⟩
  obtain ⟨wc, hc⟩ : ∃ wc, wb.alloc (.cells #[.int .i64 0, .string ⟨#[]⟩, .string ⟨#[]⟩] 30) = wc := ⟨_, rfl⟩
  obtain ⟨wd, hd⟩ : ∃ wd, wc.alloc (.cells #[.bool false] 4) = wd := ⟨_, rfl⟩
  have sa : wa.heap.size = w.heap.size + 1 := by rw [← ha]; simp
  have sb : wb.heap.size = w.heap.size + 1 + 1 := by rw [← hb, World.size_alloc, sa]
  have sc : wc.heap.size = w.heap.size + 1 + 1 + 1 := by rw [← hc, World.size_alloc, sb]
  have sd : wd.heap.size = w.heap.size + 4 := by rw [← hd, World.size_alloc, sc]
  have fa : Fr No w wa := by rw [← ha]; exact (Fr.refl _ _).alloc _
  have fb : Fr No wa wb := by rw [← hb]; exact (Fr.refl _ _).alloc _
  have fc : Fr No wb wc := by rw [← hc]; exact (Fr.refl _ _).alloc _
  have fd : Fr No wc wd := by rw [← hd]; exact (Fr.refl _ _).alloc _
  have e : f4 w q v key = wd := by unfold f4; rw [ha, hb, hc, hd]
  rw [e]
  have k0 : At wa w.heap.size 24 #[.int .i64 q, v] := by rw [← ha]; exact At.new _ _ _
  have k1 : At wb wa.heap.size 9 #[.string key] := by rw [← hb]; exact At.new _ _ _
  have k2 : At wc wb.heap.size 30 #[.int .i64 0, .string ⟨#[]⟩, .string ⟨#[]⟩] := by rw [← hc]; exact At.new _ _ _
  have k3 : At wd wc.heap.size 4 #[.bool false] := by rw [← hd]; exact At.new _ _ _
  rw [sa] at k1
  rw [sb] at k2
  rw [sc] at k3
  exact ⟨⟨((k0.keep fb (fun h => h)).keep fc (fun h => h)).keep fd (fun h => h), (k1.keep fc (fun h => h)).keep fd (fun h => h), k2.keep fd (fun h => h), k3⟩, ((fa.trans fb).trans fc).trans fd, sd⟩
theorem FdS.keep {w W W' : World} {q : Int} {v : Value} {key : ByteArray} {x : Op10} {ok : Bool} {T : Nat → Prop} (h : FdS w q v key x ok W) (f : Fr T W W') (hT : ∀ k, w.heap.size ≤ k → k < w.heap.size + 4 → ¬ T k) : FdS w q v key x ok W' :=
  ⟨h.b0.keep f (hT _ (by omega) (by omega)), h.b1.keep f (hT _ (by omega) (by omega)), h.b2.keep f (hT _ (by omega) (by omega)), h.b3.keep f (hT _ (by omega) (by omega))⟩
theorem FdS.own {w W W' : World} {q : Int} {v : Value} {key : ByteArray} {x : Op10} {ok : Bool} {row : Option Nat} {B : Nat} (h : FdS w q v key x ok W) (hg : W.grownBy W' row) (hr : Turns B W row) : FdS w q v key x ok W' :=
  ⟨own_at h.b0 hg hr, own_at h.b1 hg hr, own_at h.b2 hg hr, own_at h.b3 hg hr⟩
/-- The stores of what is told. -/
abbrev putOp (W : World) (g : Nat) (x : Op10) : World := ((W.setCell ⟨g, 0, none⟩ (.int .i64 x.k)).setCell ⟨g, 1, none⟩ (.string x.key)).setCell ⟨g, 2, none⟩ (.string x.val)
theorem putOp_fr (W : World) (g : Nat) (x : Op10) : Fr (One g) W (putOp W g x) :=
  (((Fr.refl (One g) W).setCell (p := ⟨g, 0, none⟩) (fun _ => rfl) _).setCell (p := ⟨g, 1, none⟩) (fun _ => rfl) _).setCell (p := ⟨g, 2, none⟩) (fun _ => rfl) _
theorem FdS.tell {w W : World} {q : Int} {v : Value} {key : ByteArray} {x : Op10} {ok : Bool} (h : FdS w q v key x ok W) (y : Op10) (ok' : Bool) :
    FdS w q v key y ok' ((putOp W (w.heap.size + 1 + 1) y).setCell ⟨w.heap.size + 1 + 1 + 1, 0, none⟩ (.bool ok')) := by
  have f1 := putOp_fr W (w.heap.size + 1 + 1) y
  have f2 : Fr (One (w.heap.size + 1 + 1 + 1)) (putOp W (w.heap.size + 1 + 1) y) ((putOp W (w.heap.size + 1 + 1) y).setCell ⟨w.heap.size + 1 + 1 + 1, 0, none⟩ (.bool ok')) := (Fr.refl (One (w.heap.size + 1 + 1 + 1)) _).setCell (p := ⟨w.heap.size + 1 + 1 + 1, 0, none⟩) (fun _ => rfl) _
  have n : ∀ a b : Nat, a ≠ b → ¬ One b a := fun a b h e => h e
  exact ⟨(h.b0.keep f1 (n _ _ (by omega))).keep f2 (n _ _ (by omega)), (h.b1.keep f1 (n _ _ (by omega))).keep f2 (n _ _ (by omega)),
    (((h.b2.set_ 0 (.int .i64 y.k)).set_ 1 (.string y.key)).set_ 2 (.string y.val)).keep f2 (n _ _ (by omega)), ((h.b3.keep f1 (n _ _ (by omega))).set_ 0 (.bool ok'))⟩
theorem tell_fr (w W : World) (y : Op10) (ok' : Bool) : Fr (fun k => w.heap.size ≤ k) W ((putOp W (w.heap.size + 1 + 1) y).setCell ⟨w.heap.size + 1 + 1 + 1, 0, none⟩ (.bool ok')) :=
  ((putOp_fr W (w.heap.size + 1 + 1) y).sub fun k _ h => by have h : k = w.heap.size + 1 + 1 := h; show w.heap.size ≤ k; omega).setCell (p := ⟨w.heap.size + 1 + 1 + 1, 0, none⟩) (fun _ => by show w.heap.size ≤ w.heap.size + 1 + 1 + 1; omega) _
theorem FdS.cells {w W : World} {q : Int} {v : Value} {key : ByteArray} {x : Op10} {ok : Bool} (h : FdS w q v key x ok W) :
    W.cell? ⟨w.heap.size, 1, none⟩ = some v ∧ W.cell? ⟨w.heap.size + 1, 0, none⟩ = some (.string key) ∧ W.cell? ⟨w.heap.size + 1 + 1, 0, none⟩ = some (.int .i64 x.k) ∧ W.cell? ⟨w.heap.size + 1 + 1, 1, none⟩ = some (.string x.key) ∧ W.cell? ⟨w.heap.size + 1 + 1, 2, none⟩ = some (.string x.val) ∧
    W.cell? ⟨w.heap.size + 1 + 1 + 1, 0, none⟩ = some (.bool ok) ∧ W.frozen? ⟨w.heap.size + 1 + 1, 0, none⟩ = false ∧ W.frozen? ⟨w.heap.size + 1 + 1, 1, none⟩ = false ∧ W.frozen? ⟨w.heap.size + 1 + 1, 2, none⟩ = false ∧ W.frozen? ⟨w.heap.size + 1 + 1 + 1, 0, none⟩ = false :=
  ⟨h.b0.cell 1, h.b1.cell 0, h.b2.cell 0, h.b2.cell 1, h.b2.cell 2, h.b3.cell 0, h.b2.frozen 0, h.b2.frozen 1, h.b2.frozen 2, h.b3.frozen 0⟩
/-- What is sought: the last of those gone through from the end. -/
theorem wantI_stop {l : List Op10} {key : ByteArray} {pre : List (Pla l.length)} {z : Pla l.length} (h : pre ++ [z] <+: bk l.length l.length) (hp : ∀ i ∈ pre, (l.getD i.val op0).key ≠ key) (hz : (l.getD z.val op0).key = key) : wantI l key l.length = (z.val : Int) := by
  have H : ∀ k, k ≤ l.length → ∀ (pre : List (Pla l.length)) (z : Pla l.length), pre ++ [z] <+: bk l.length k → (∀ i ∈ pre, (l.getD i.val op0).key ≠ key) → (l.getD z.val op0).key = key → wantI l key l.length = (z.val : Int) := by
    intro k hk pre z ⟨t, ht⟩ hp hz
    have hlen := congrArg List.length ht
    rw [bk_len l.length k hk] at hlen
    simp only [List.length_append, List.length_cons, List.length_nil] at hlen
    have key2 : ∀ j, j < k → (bk l.length k)[j]? = (if h : j < l.length then some (⟨l.length - 1 - j, by omega⟩ : Pla l.length) else none) := by
      intro j hj
      clear ht hlen hp hz
      induction k with
      | zero => omega
      | succ k ih =>
        have e : bk l.length (k + 1) = bk l.length k ++ [⟨l.length - 1 - k, by omega⟩] := by
          show (if h : k < l.length then bk l.length k ++ [⟨l.length - 1 - k, by omega⟩] else bk l.length k) = _
          rw [dif_pos (by omega)]
        rw [e]
        rcases Nat.lt_or_ge j k with h | h
        · rw [List.getElem?_append_left (by rw [bk_len _ _ (by omega)]; exact h)]
          exact ih (by omega) h
        · have : j = k := by omega
          subst this
          rw [List.getElem?_append_right (by rw [bk_len _ _ (by omega)]; exact Nat.le_refl _), bk_len _ _ (by omega), dif_pos (by omega)]
          simp
    have hz1 := key2 pre.length (by omega)
    rw [← ht, List.append_assoc, List.getElem?_append_right (Nat.le_refl _), Nat.sub_self, dif_pos (by omega)] at hz1
    have hzv : z = ⟨l.length - 1 - pre.length, by omega⟩ := by simpa using hz1
    have hzv := congrArg Subtype.val hzv
    simp only at hzv
    have hup : ∀ i, z.val < i → i < l.length → (l.getD i op0).key ≠ key := by
      intro i h1 h2
      have hj := key2 (l.length - 1 - i) (by omega)
      rw [← ht, List.append_assoc, List.getElem?_append_left (by omega), dif_pos (by omega)] at hj
      have hm := List.mem_of_getElem? hj
      have := hp _ hm
      simp only at this
      rw [show l.length - 1 - (l.length - 1 - i) = i by omega] at this
      exact this
    have W : ∀ n, z.val < n → n ≤ l.length → wantI l key n = (z.val : Int) := by
      intro n
      induction n with
      | zero => intro h; omega
      | succ n ih =>
        intro h1 h2
        unfold wantI
        by_cases h : z.val = n
        · rw [← h, if_pos hz]
        · rw [if_neg (hup n (by omega) (by omega))]
          exact ih (by omega) (by omega)
    exact W l.length z.2 (Nat.le_refl _)
  exact H l.length (Nat.le_refl _) pre z h hp hz
theorem wantI_none {l : List Op10} {key : ByteArray} (h : ∀ i ∈ bk l.length l.length, (l.getD i.val op0).key ≠ key) : wantI l key l.length = -1 := by
  have hall : ∀ i, i < l.length → (l.getD i op0).key ≠ key := by
    intro i hi
    have hs := bk_step (m := l.length) (j := i) hi
    have hp := bk_prefix l.length (l.length - 1 - i + 1) i
    rw [show l.length - 1 - i + 1 + i = l.length by omega, hs] at hp
    obtain ⟨t, ht⟩ := hp
    exact h ⟨i, hi⟩ (by rw [← ht]; simp)
  have W : ∀ n, n ≤ l.length → wantI l key n = -1 := by
    intro n
    induction n with
    | zero => intro _; rfl
    | succ n ih =>
      intro h2
      unfold wantI
      rw [if_neg (hall n (by omega))]
      exact ih (by omega)
  exact W l.length (Nat.le_refl _)
/-- What the rounds of a Find keep. -/
def FdI (w w1 : World) (q : Int) (v : Value) (key : ByteArray) (l : List Op10) (pre : List (Pla l.length)) (W : World) : Prop := (∀ i ∈ pre, (l.getD i.val op0).key ≠ key) ∧ FdS w q v key op0 false W ∧ Fr No w W ∧ w1.heap.size ≤ W.heap.size
theorem own_fdI (w w1 : World) (q : Int) (v : Value) (key : ByteArray) (l : List Op10) (h : w.heap.size ≤ w1.heap.size) : OwnFrom w1.heap.size (FdI w w1 q v key l) := fun pre W W' row ⟨h1, h2, h3, h4⟩ hg hr =>
  ⟨h1, h2.own hg hr, own_fr h h3 hg hr, Nat.le_trans h4 hg.size⟩
/-- What stands behind the round that has found. -/
def FdX (w : World) (q : Int) (v : Value) (key : ByteArray) (l : List Op10) (c : Code) (pre : List (Pla l.length)) (W : World) : Prop := c = .ret ∧ ∃ (p : List (Pla l.length)) (z : Pla l.length), pre = p ++ [z] ∧ (∀ i ∈ p, (l.getD i.val op0).key ≠ key) ∧ (l.getD z.val op0).key = key ∧ FdS w q v key (l.getD z.val op0) true W ∧ Fr No w W
theorem own_fdX (w w1 : World) (q : Int) (v : Value) (key : ByteArray) (l : List Op10) (c : Code) (h : w.heap.size ≤ w1.heap.size) : OwnFrom w1.heap.size (FdX w q v key l c) := fun pre W W' row ⟨h0, p, z, h1, h2, h3, h4, h5⟩ hg hr =>
  ⟨h0, p, z, h1, h2, h3, h4.own hg hr, own_fr h h5 hg hr⟩
set_option maxRecDepth 100000 in
set_option maxHeartbeats 4000000 in
theorem bfind_c (q : Int) (a : Option Addr) (cap : Nat) (l : List Op10) (key : ByteArray) (w : World) (S : Nat → Prop) (hm : l.length ≤ 9223372036854775807) (hi : Ops w S a l) :
    Calls Try.prog 25 #[.agg #[.int .i64 q, .slice a l.length cap], .string key] w
      (Ask (.tuple #[if wantI l key l.length < 0 then opV op0 else opV (l.getD (wantI l key l.length).toNat op0), .bool (decide (0 ≤ wantI l key l.length))]) w) := by
  have HI := Lib.hid (hi.sub (T := fun k => k < w.heap.size) fun k hk _ => hk)
  obtain ⟨k1, k2, k3⟩ := f4_ok w q (.slice a l.length cap) key
  obtain ⟨W4, hW4⟩ : ∃ W, f4 w q (.slice a l.length cap) key = W := ⟨_, rfl⟩
  rw [hW4] at k1 k2 k3
  obtain ⟨c0, c1, _, _, _, _, _, _, _, _⟩ := k1.cells
  unfold f4 at hW4
  have HW := Lib.hid hW4
  have CZ := Lib.hid (backward_c a cap l.length W4)
  have K1 := Lib.hid k1
  have K2 := Lib.hid k2
  have K3 := Lib.hid k3
  obtain ⟨R, hR⟩ : ∃ R, Value.tuple #[if wantI l key l.length < 0 then opV op0 else opV (l.getD (wantI l key l.length).toNat op0), .bool (decide (0 ≤ wantI l key l.length))] = R := ⟨_, rfl⟩
  rw [hR]
  have HR := Lib.hid hR
  clear k1 k2 k3 hW4 hi hR
  refine (callsIn_wide (n := 5)).1 ?_
  refine callsIn_of_wp_marks Try.func25 rfl trivial ?_ rfl
  simp only [Try.ntmps25, List.size_toArray, List.length_cons, List.length_nil, Nat.reduceAdd, Nat.reduceSub, Array.replicate_succ, Array.replicate_zero, List.push_toArray, List.append_toArray, List.nil_append, List.cons_append]
  refine wpIn_wide.2 ?_
  go_wp2_with fail
  rw [HW.out]
  go_wp2_with fail
  refine CZ.out.mono ?_
  rintro e w2 ⟨B1, rfl, f2, hb1, hB1⟩
  have HF2 := Lib.hid f2
  have hz2 := f2.size
  rw [K3.out] at hB1 hz2
  have hs : SeqB w2 (fun k => k < w.heap.size) B1 a cap l := ⟨hb1, HI.out.keep (K2.out.trans f2) fun _ _ h => h, fun k hk => by omega⟩
  have hB2 : B1 < w2.heap.size := cell_block hb1
  clear f2 CZ hb1
  go_wp2_with fail
  refine (wpIn_wide (n := 5)).1 ?_
  have hf1 := K2.out.trans HF2.out
  have hz4 := K3.out
  refine wpIn_rangeFunc_ownH rfl (by omega) (gf := 44) (lb := #[.pointer (some ⟨B1, 0, none⟩)]) rfl trivial (enters_of Try.func44 (by kernel_rfl) rfl)
    (hs.stops 4 (by omega) (fun k => w2.heap.size ≤ k) hm (fun h => by omega) (fun k h1 h2 => by omega))
    (fun h k => h.trans k) (fun W k o o' hk _ _ _ => Fr.grown (grownBy_putObj' W k o') (fun j e => by cases e; exact hk)) (Below.refl _ _) (fun _ => rfl)
    (FdI w w2 q (.slice a l.length cap) key l) (FdX w q (.slice a l.length cap) key l) (own_fdI w w2 q _ key l hf1.size) (fun c => own_fdX w w2 q _ key l c hf1.size)
    ⟨fun _ h => absurd h (List.not_mem_nil), K1.out.keep HF2.out (fun _ _ _ h => h), hf1, Nat.le_refl _⟩
    (fun z a' W => ∃ O, a' = { tmps := #[.agg #[.int .i64 q, .slice a l.length cap], .string key, .pointer (some ⟨w.heap.size, 0, none⟩), .pointer (some ⟨w.heap.size + 1, 0, none⟩), .pointer (some ⟨w.heap.size + 1 + 1, 0, none⟩), .pointer (some ⟨w.heap.size + 1 + 1 + 1, 0, none⟩), undef, .pointer (some ⟨O, 0, none⟩), .pointer (some ⟨w.heap.size, 1, none⟩), .slice a l.length cap, seqB B1, .int .i64 ((z.val : Nat) : Int), opV (l.getD z.val op0), undef, undef, undef, undef, undef, undef], defers := [] } ∧ At W O 30 #[.int .i64 (l.getD z.val op0).k, .string (l.getD z.val op0).key, .string (l.getD z.val op0).val] ∧ w2.heap.size ≤ O)
    (fun z a' => fun _ W W' row ⟨O, h1, h2, h3⟩ hg hr => ⟨O, h1, own_at h2 hg hr, h3⟩) ?assign ?body ?done ?stop
  case assign =>
    rintro y pre z W K ⟨h1, h2, h3, h4⟩ hK
    obtain ⟨x, hx⟩ : ∃ x, l.getD z.val op0 = x := ⟨_, rfl⟩
    rw [hx] at hK ⊢
    obtain ⟨W3, hW3, hf3, hat3⟩ := box_op W x
    have hat : At W3 W.heap.size 30 #[.int .i64 x.k, .string x.key, .string x.val] := by rw [← hW3]; exact At.new _ _ _
    have HK1 := Lib.hid (fun a' e => hK a' W3 (by rw [← hW3]; exact (KeepsOthers.alloc _ _).from _) (hf3.sub fun _ _ h => h.elim) ⟨h1, h2.keep hf3 (fun _ _ _ h => h), h3.trans hf3, Nat.le_trans h4 hf3.size⟩ ⟨W.heap.size, e, hat, h4⟩)
    have HW3 := Lib.hid hW3
    clear hK h1 h2 h3 h4 hW3 hf3 hat3 hat
    unfold opV
    gi_wp2
    rw [HW3.out]
    exact HK1.out _ rfl
  case body =>
    rintro y pre z a2 W hy hl ⟨h1, h2, h3, h4⟩ ⟨O, rfl, hat, hO⟩ hlen
    obtain ⟨e0, e1, e2, e3, e4, e5, q0, q1, q2, q3⟩ := h2.cells
    obtain ⟨x, hx⟩ : ∃ x, l.getD z.val op0 = x := ⟨_, rfl⟩
    rw [hx] at hat
    have g0 := hat.cell 0
    have g1 := hat.cell 1
    have g2 := hat.cell 2
    by_cases hk : x.key = key
    · have hb : (x.key.toList == key.toList) = true := by rw [toList_eq_iff]; simpa using hk
      have ht := h2.tell x true
      have FIN : Hid (KeepsFrom w2.heap.size W ((putOp W (w.heap.size + 1 + 1) x).setCell ⟨w.heap.size + 1 + 1 + 1, 0, none⟩ (.bool true)) ∧ FdX w q (.slice a l.length cap) key l .ret (pre ++ [z]) ((putOp W (w.heap.size + 1 + 1) x).setCell ⟨w.heap.size + 1 + 1 + 1, 0, none⟩ (.bool true))) := Lib.hid
        ⟨(((((KeepsOthers.setCell _ _ _).trans (KeepsOthers.setCell _ _ _)).trans (KeepsOthers.setCell _ _ _)).trans (KeepsOthers.setCell _ _ _))).from _, rfl, pre, z, rfl, h1, by rw [hx]; exact hk, by rw [hx]; exact ht, h3.then_ (tell_fr w W x true) fun k hk h => absurd hk (by omega)⟩
      rw [hx]
      clear h1 h2 h3 h4 hat hO ht hk hlen hy hl
      unfold opV
      gi_wp2
      exact FIN.out
    · have hb : (x.key.toList == key.toList) = false := by rw [toList_eq_iff]; simpa using hk
      have FIN : Hid (FdI w w2 q (.slice a l.length cap) key l (pre ++ [z]) W) := Lib.hid ⟨fun i hi => by
        rcases List.mem_append.1 hi with h | h
        · exact h1 i h
        · rw [List.mem_singleton.1 h, hx]; exact hk, h2, h3, h4⟩
      rw [hx]
      clear h1 h2 h3 h4 hat hO hk hlen hy hl
      unfold opV
      gi_wp2
      exact ⟨(KeepsOthers.refl W).from _, Fr.refl _ _, FIN.out⟩
  case done =>
    rintro D ys W hD rfl ⟨h1, h2, h3, h4⟩ hK
    have hv := wantI_none h1
    have HV : Hid (R = .tuple #[.agg #[.int .i64 0, .string ⟨#[]⟩, .string ⟨#[]⟩], .bool false]) := Lib.hid (by rw [← HR.out, hv]; rfl)
    obtain ⟨e0, e1, e2, e3, e4, e5, q0, q1, q2, q3⟩ := h2.cells
    have ht := h2.tell op0 false
    have f7 := h3.then_ (tell_fr w W op0 false) fun k hk h => absurd hk (by omega)
    have hK2 : ((putOp W (w.heap.size + 1 + 1) op0).setCell ⟨w.heap.size + 1 + 1 + 1, 0, none⟩ (.bool false)).heap[D]? = some (.deferred (some [])) := ((((KeepsOthers.setCell _ _ _).trans (KeepsOthers.setCell _ _ _)).trans (KeepsOthers.setCell _ _ _)).trans (KeepsOthers.setCell _ _ _)).same _ _ hK rfl
    have HT := Lib.hid ht
    have F7 := Lib.hid f7
    have HK2 := Lib.hid hK2
    have hf1s := hf1.size
    clear ht f7 hK2 h1 h2 h3 h4 hv
    go_wp2_with fail
    refine ⟨by simp, .inl ⟨_, _, rfl, run_takeDeferred HK2.out, ?_⟩⟩
    have hg := grownBy_putObj' ((putOp W (w.heap.size + 1 + 1) op0).setCell ⟨w.heap.size + 1 + 1 + 1, 0, none⟩ (.bool false)) D (.deferred none)
    have hr : Turns w2.heap.size ((putOp W (w.heap.size + 1 + 1) op0).setCell ⟨w.heap.size + 1 + 1 + 1, 0, none⟩ (.bool false)) (some D) := fun r e => by cases e; exact ⟨hD, _, HK2.out, rfl⟩
    have M2 := HT.out.own hg hr
    have F8 := own_fr hf1s F7.out hg hr
    exact ⟨_, find_results _ _ _ _ _ _ _ _ rfl rfl M2.b2 (M2.b3.cell 0), by rw [HV.out]; rfl, F8⟩
  case stop =>
    rintro D c pre W hD hpre ⟨rfl, p, z, rfl, h1, h2, h3, h4⟩ hK
    have hv := wantI_stop hpre h1 h2
    have HV : Hid (R = .tuple #[opV (l.getD z.val op0), .bool true]) := Lib.hid (by
      rw [← HR.out, hv, if_neg (by omega)]
      simp)
    have hf1s := hf1.size
    clear hv
    gi_wp2
    refine ⟨by simp, .inl ⟨_, _, rfl, run_takeDeferred hK, ?_⟩⟩
    have hg := grownBy_putObj' W D (.deferred none)
    have hr : Turns w2.heap.size W (some D) := fun r e => by cases e; exact ⟨hD, _, hK, rfl⟩
    have M2 := h3.own hg hr
    exact ⟨_, find_results _ _ _ _ _ _ _ _ rfl rfl M2.b2 (M2.b3.cell 0), by rw [HV.out]; rfl, own_fr hf1s h4 hg hr⟩
end Go.Proofs.Ytidfjcaajejfoaa
