/-
  Layer 8, the program's own table: zonesOf, Count.
-/
import Derived.Test.YtmkadpjacidlkaaArF
namespace Go.Proofs.Ytmkadpjacidlkaa
set_option linter.unusedVariables false
open Go.RowKit Go.Shelf
attribute [local go_sem] Oper.semAt_some

abbrev seqZ (B1 B2 : Nat) : Value := .func (.func 42) #[] #[.pointer (some ⟨B1, 0, none⟩), .pointer (some ⟨B2, 0, none⟩)]
/-- What an iterator over the zones of a role reads. -/
structure SeqZ (w : World) (B1 B2 t g : Nat) (r : List Nat) (x : Int) : Prop where
  b1 : w.cell? ⟨B1, 0, none⟩ = some (.pointer (some ⟨t, 0, none⟩))
  b2 : w.cell? ⟨B2, 0, none⟩ = some (.int .i64 x)
  c0 : w.cell? ⟨t, 0, none⟩ = some (.slice (some ⟨g, 0, none⟩) r.length r.length)
  cr : ∀ i, i < r.length → w.cell? ⟨g, i, none⟩ = some (.int .i64 ((r.getD i 0 : Nat) : Int))
theorem SeqZ.keep {w w' : World} {B1 B2 t g : Nat} {r : List Nat} {x : Int} (h : SeqZ w B1 B2 t g r x) (f : Fr No w w') : SeqZ w' B1 B2 t g r x :=
  ⟨f.cell h.b1 (fun h => h), f.cell h.b2 (fun h => h), f.cell h.c0 (fun h => h), fun i hi => f.cell (h.cr i hi) (fun h => h)⟩
theorem SeqZ.stops {w : World} {B1 B2 t g : Nat} {r : List Nat} {x : Int} (h : SeqZ w B1 B2 t g r x) (n : Nat) (hn : 1 ≤ n) (T : Nat → Prop) (hr : r.length ≤ 64) (h1 : ¬ T g) (h2 : ¬ T B2) :
    SeqStopsK Fence.wide n Try.prog 42 #[.pointer (some ⟨B1, 0, none⟩), .pointer (some ⟨B2, 0, none⟩)] (fun z : Zx r x => #[Value.int .i64 ((z.val : Nat) : Int)]) (Fr T) (fun ys => ys = zl r x r.length) (fun pre => pre <+: zl r x r.length) r.length w :=
  fun y J Jx W hW _ _ hY h0 => by
    have k : ∀ {p : Addr} {v : Value}, w.cell? p = some v → W.cell? p = some v := fun h => (hW.cell (cell_block h)).trans h
    exact zones_in n hn y B1 B2 t g r x hr J Jx (fun pre z W1 hJ hl => (hY pre z W1 hJ hl).mono fun e W' h3 => h3.imp (fun h4 => ⟨h4.1, h4.2.1, KpZ.of_fr h4.2.2 h1 h2 z.val⟩) (fun h => h)) W (k h.b1) (k h.b2) (k h.c0) (fun i hi => k (h.cr i hi)) h0
section
variable {w : World} {t : Nat} {F : Nat → Prop} {b : Tb}
/-- What zonesOf hands back. -/
def ZofRet (t g : Nat) (r : List Nat) (x : Int) (w : World) (e : Ending) (w' : World) : Prop := ∃ B1 B2, e = .returned (seqZ B1 B2) ∧ Fr No w w' ∧ SeqZ w' B1 B2 t g r x ∧ w.heap.size ≤ B1 ∧ w.heap.size ≤ B2
set_option maxHeartbeats 800000 in
theorem zonesOf_c {g : Nat} {a : Option Addr} {c : Nat} (h : TaAt w t g a c b) (x : Int) : Calls Try.prog 28 #[.pointer (some ⟨t, 0, none⟩), .int .i64 x] w (ZofRet t g b.r x w) := by
  obtain ⟨w1, hw1⟩ : ∃ w1, w.alloc (.cells #[.pointer (some ⟨t, 0, none⟩)] 23) = w1 := ⟨_, rfl⟩
  obtain ⟨w2, hw2⟩ : ∃ w2, w1.alloc (.cells #[.int .i64 x] 3) = w2 := ⟨_, rfl⟩
  have f1 : Fr No w w1 := by rw [← hw1]; exact (Fr.refl No w).alloc _
  have f2 : Fr No w1 w2 := by rw [← hw2]; exact (Fr.refl No w1).alloc _
  have a1 : At w1 w.heap.size 23 #[.pointer (some ⟨t, 0, none⟩)] := by rw [← hw1]; exact At.new _ _ _
  have a2 : At w2 w1.heap.size 3 #[.int .i64 x] := by rw [← hw2]; exact At.new _ _ _
  have k2 := (h.keep f1 (fun h => h) (fun h => h) (fun _ _ h => h)).keep f2 (fun h => h) (fun h => h) (fun _ _ h => h)
  have hs : w1.heap.size = w.heap.size + 1 := by rw [← hw1]; simp
  have HR : Hid (ZofRet t g b.r x w (.returned (seqZ w.heap.size (w.heap.size + 1))) w2) := Lib.hid ⟨_, _, rfl, f1.trans f2, ⟨(a1.keep f2 (fun h => h)).cell 0, by rw [← hs]; exact a2.cell 0, k2.cells.1, fun i hi => k2.role hi⟩, Nat.le_refl _, by omega⟩
  clear h f1 f2 a1 a2 k2
  go_enter Try.func28, Try.ntmps28
  go_wp2_with fail
  go_ret
  subst hw1 hw2
  exact HR.out
/-- What the rounds of Count keep. -/
def CnI (w : World) (r : List Nat) (x : Int) (pre : List (Zx r x)) (W : World) : Prop := At W w.heap.size 3 #[.int .i64 (pre.length : Int)] ∧ Fr No w W ∧ pre.length ≤ 64
theorem own_cn (w w1 : World) (r : List Nat) (x : Int) (h : w.heap.size ≤ w1.heap.size) : OwnFrom w1.heap.size (CnI w r x) := fun pre W W' row ⟨h1, h2, h3⟩ hg hr => ⟨own_at h1 hg hr, own_fr h h2 hg hr, h3⟩
theorem count_val (r : List Nat) (x : Int) : ((zl r x r.length).length : Int) = (r.countP fun y => ((y : Nat) : Int) == x : Nat) := by
  have h1 := congrArg List.length (zl_val r x r.length (Nat.le_refl _))
  rw [List.length_map] at h1
  rw [h1, ← List.countP_eq_length_filter]
  have : ∀ (l : List Nat), (List.range l.length).countP (fun z => ((l.getD z 0 : Nat) : Int) == x) = l.countP fun y => ((y : Nat) : Int) == x := by
    intro l
    have e : l = (List.range l.length).map fun z => l.getD z 0 := by
      apply List.ext_getElem
      · simp
      · intro i h1 h2
        simp [h1]
    conv => rhs; rw [e, List.countP_map]
    rfl
  rw [this]
set_option maxRecDepth 100000 in
set_option maxHeartbeats 2000000 in
theorem count_c (h : Ta w t F b) (hw : WT b) (x : Int) : Calls Try.prog 24 #[.pointer (some ⟨t, 0, none⟩), .int .i64 x] w (TellZ (.int .i64 (countT b x : Int)) w) := by
  obtain ⟨h0, g, a, c, h1, h2, h3, h4⟩ := h
  have hn64 := hw.n64
  have hgo := h0 g h3
  refine (callsIn_wide (n := 5)).1 ?_
  refine callsIn_of_wp_marks Try.func24 rfl trivial ?_ rfl
  simp only [Try.ntmps24, List.size_toArray, List.length_cons, List.length_nil, Nat.reduceAdd, Nat.reduceSub, Array.replicate_succ, Array.replicate_zero, List.push_toArray, List.append_toArray, List.nil_append, List.cons_append]
  refine wpIn_wide.2 ?_
  have A0 : At _ w.heap.size _ _ := At.new w 3 #[.int .i64 0]
  have hf0 := (Fr.refl No w).alloc (.cells #[.int .i64 0] 3)
  have hs0 : (w.alloc (.cells #[.int .i64 0] 3)).heap.size = w.heap.size + 1 := by simp
  have CZ := Lib.hid (zonesOf_c (h1.keep hf0 (fun h => h) (fun h => h) (fun _ _ h => h)) x)
  have HA := Lib.hid A0
  have HF := Lib.hid hf0
  have HS := Lib.hid hs0
  clear h0 h1 h2 h3 h4 A0 hf0 hs0
  go_wp2_with fail
  refine CZ.out.mono ?_
  rintro e w2 ⟨B1, B2, rfl, f2, hs, hb1, hb2⟩
  have HF2 := Lib.hid f2
  have hz2 := f2.size
  rw [HS.out] at hb1 hb2 hz2
  clear f2 CZ
  go_wp2_with fail
  refine (wpIn_wide (n := 5)).1 ?_
  have hf1 := HF.out.trans HF2.out
  have hB2 : B2 < w2.heap.size := cell_block hs.b2
  refine wpIn_rangeFunc_ownG rfl (by omega) (gf := 42) (lb := #[.pointer (some ⟨B1, 0, none⟩), .pointer (some ⟨B2, 0, none⟩)]) rfl trivial (enters_of Try.func42 (by kernel_rfl) rfl)
    (hs.stops 4 (by omega) (fun k => k = w.heap.size ∨ w2.heap.size ≤ k) hn64 (fun h => by omega) (fun h => by omega))
    (fun h k => h.trans k) (fun W k o o' hk _ _ _ => Fr.grown (grownBy_putObj' W k o') (fun j e => by cases e; exact .inr hk)) (Below.refl _ _) (fun _ => rfl)
    (CnI w b.r x) (fun _ _ _ => False) (own_cn w w2 b.r x hf1.size) (fun _ _ _ _ _ hs _ _ => hs)
    ⟨HA.out.keep HF2.out (fun h => h), hf1, by simp⟩
    (fun z => { tmps := #[.pointer (some ⟨t, 0, none⟩), .int .i64 x, undef, undef, .int .i64 0, .pointer (some ⟨w.heap.size, 0, none⟩), .pointer (some ⟨t, 0, none⟩), .int .i64 x, seqZ B1 B2, .int .i64 ((z.val : Nat) : Int), undef, undef, undef], defers := [] }) ?assign ?body ?done ?stop
  case assign =>
    intro y z W K hK
    gi_wp2
    simpa using hK
  case body =>
    rintro y pre z W ⟨h1, h2, h3⟩ hlen
    have c0 := h1.cell 0
    have f0 := h1.frozen 0
    simp at c0
    have HK := Lib.hid (KeepsOthers.setCell W ⟨w.heap.size, 0, none⟩ (.int .i64 ((pre.length : Int) + 1)))
    have HT := Lib.hid ((Fr.refl (fun k => k = w.heap.size ∨ w2.heap.size ≤ k) W).setCell (p := ⟨w.heap.size, 0, none⟩) (fun _ => .inl rfl) (.int .i64 ((pre.length : Int) + 1)))
    have HI : Hid (CnI w b.r x (pre ++ [z]) (W.setCell ⟨w.heap.size, 0, none⟩ (.int .i64 ((pre.length : Int) + 1)))) := Lib.hid ⟨by
      have := h1.set_ 0 (.int .i64 ((pre.length : Int) + 1))
      rw [List.length_append, List.length_singleton]
      exact this, h2.setCell (fun h => absurd h (Nat.lt_irrefl _)) _, by simp; omega⟩
    have hp := h3
    clear h1 h2 h3 hlen
    generalize pre.length = n at *
    gi_wp2
    exact ⟨HK.out.from _, HT.out, HI.out⟩
  case done =>
    rintro D ys W hD rfl ⟨h1, h2, h3⟩ hK
    have c0 := h1.cell 0
    simp at c0
    have hv : ((zl b.r x b.r.length).length : Int) = (countT b x : Int) := count_val b.r x
    rw [hv] at c0
    go_wp2_with fail
    refine ⟨by simp, .inl ⟨_, _, rfl, run_takeDeferred hK, ?_⟩⟩
    have hg := grownBy_putObj' W D (.deferred none)
    have hr : Turns w2.heap.size W (some D) := fun r e => by cases e; exact ⟨hD, _, hK, rfl⟩
    exact ⟨_, results_tmp rfl _ _ _, rfl, own_fr hf1.size h2 hg hr⟩
  case stop =>
    rintro D c pre W _ _ h _
    exact h.elim
end
end Go.Proofs.Ytmkadpjacidlkaa
