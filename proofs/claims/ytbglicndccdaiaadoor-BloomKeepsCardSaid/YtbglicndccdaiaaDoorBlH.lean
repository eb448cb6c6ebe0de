/-
  slices.Collect over a key's probes; the contract of Places.
-/
import Derived.Test.YtbglicndccdaiaaDoorBlG
namespace Go.Proofs.YtbglicndccdaiaaDoor
set_option linter.unusedVariables false
open Go.RowKit Go.Shelf
attribute [local go_sem] Oper.semAt_some

/-- What the rounds of Places keep. -/
def PlI (w w1 : World) (pre : List Int) (W : World) : Prop := ∃ v, At W w.heap.size 44 #[v] ∧ RowI W (Own1 v) v pre ∧ (∀ k, v.ownBlock = some k → w1.heap.size ≤ k) ∧ Fr No w W ∧ w1.heap.size ≤ W.heap.size ∧ pre.length ≤ 64
theorem plI_own (w w1 : World) (h : w.heap.size ≤ w1.heap.size) : OwnFrom w1.heap.size (PlI w w1) := fun pre W W' row ⟨v, h1, h2, h3, h4, h5, h6⟩ hg hr =>
  ⟨v, own_at h1 hg hr, own_rowI h2 hg hr, h3, own_fr h h4 hg hr, Nat.le_trans h5 hg.size, h6⟩
abbrev seqV (B1 B2 B3 B4 : Nat) : Value := .func (.func 38) #[] #[.pointer (some ⟨B1, 0, none⟩), .pointer (some ⟨B2, 0, none⟩), .pointer (some ⟨B3, 0, none⟩), .pointer (some ⟨B4, 0, none⟩)]
/-- The cells of an iterator over a key's probes. -/
structure SeqAt (w : World) (B1 B2 B3 B4 : Nat) (l : List UInt8) (m c : Nat) : Prop where
  c1 : w.cell? ⟨B1, 0, none⟩ = some (.int .u32 ((pA l : Nat) : Int))
  c2 : w.cell? ⟨B2, 0, none⟩ = some (.int .i64 (c : Int))
  c3 : w.cell? ⟨B3, 0, none⟩ = some (.int .i64 (m : Int))
  c4 : w.cell? ⟨B4, 0, none⟩ = some (.int .u64 ((pD l : Nat) : Int))
theorem SeqAt.keep {w w' : World} {B1 B2 B3 B4 : Nat} {l : List UInt8} {m c : Nat} (h : SeqAt w B1 B2 B3 B4 l m c) (f : Fr No w w') : SeqAt w' B1 B2 B3 B4 l m c :=
  ⟨f.cell h.c1 (fun h => h), f.cell h.c2 (fun h => h), f.cell h.c3 (fun h => h), f.cell h.c4 (fun h => h)⟩
theorem SeqAt.stops {w : World} {B1 B2 B3 B4 : Nat} {l : List UInt8} {m c : Nat} (h : SeqAt w B1 B2 B3 B4 l m c) (n : Nat) (hn : 1 ≤ n) (T : Nat → Prop) (hm : 0 < m) (hm2 : m ≤ 1000000000) (hc : c ≤ 64) (b3 : ¬ T B3) (b4 : ¬ T B4) :
    SeqStopsK Fence.wide n Tryd.prog 38 #[.pointer (some ⟨B1, 0, none⟩), .pointer (some ⟨B2, 0, none⟩), .pointer (some ⟨B3, 0, none⟩), .pointer (some ⟨B4, 0, none⟩)] (fun x : Int => #[Value.int .i64 x]) (Fr T) (fun ys => ys = placesI l m c) (fun pre => pre <+: placesI l m c) c w :=
  probes_stops n hn B1 B2 B3 B4 T l m c hm hm2 hc w b3 b4 h.c1 h.c2 h.c3 h.c4
set_option maxRecDepth 100000 in
set_option maxHeartbeats 2000000 in
theorem appendSeq_c (B1 B2 B3 B4 : Nat) (l : List UInt8) (m c : Nat) (w : World) (hs : SeqAt w B1 B2 B3 B4 l m c) (hm : 0 < m) (hm2 : m ≤ 1000000000) (hc : c ≤ 64) :
    Calls Tryd.prog 40 #[.slice none 0 0, seqV B1 B2 B3 B4] w (NewRowI (placesI l m c) w) := by
  have HQ := Lib.hid hs
  refine (callsIn_wide (n := 5)).1 ?_
  refine callsIn_of_wp_marks Tryd.func40 rfl trivial ?_ rfl
  simp only [Tryd.ntmps40, List.size_toArray, List.length_cons, List.length_nil, Nat.reduceAdd, Nat.reduceSub, Array.replicate_succ, Array.replicate_zero, List.push_toArray, List.append_toArray, List.nil_append, List.cons_append]
  have A0 : At _ w.heap.size _ _ := At.new w 44 #[.slice none 0 0]
  have hf1 := (Fr.refl No w).alloc (.cells #[.slice none 0 0] 44)
  have hb3 : B3 < w.heap.size := cell_block hs.c3
  have hb4 : B4 < w.heap.size := cell_block hs.c4
  clear hs
  gi_wp2
  have HS0 := Lib.hid (show (w.alloc (.cells #[.slice none 0 0] 44)).heap.size = w.heap.size + 1 by simp)
  generalize w.alloc (.cells #[.slice none 0 0] 44) = w1 at *
  refine wpIn_rangeFunc_ownG rfl (by omega) (gf := 38) (lb := #[.pointer (some ⟨B1, 0, none⟩), .pointer (some ⟨B2, 0, none⟩), .pointer (some ⟨B3, 0, none⟩), .pointer (some ⟨B4, 0, none⟩)]) rfl trivial (enters_of Tryd.func38 (by kernel_rfl) rfl)
    ((HQ.out.keep hf1).stops 4 (by omega) (fun k => k = w.heap.size ∨ w1.heap.size ≤ k) hm hm2 hc (fun h => by have := HS0.out; omega) (fun h => by have := HS0.out; omega))
    (fun h k => h.trans k) (fun W k o o' hk _ _ _ => Fr.grown (grownBy_putObj' W k o') (fun j e => by cases e; exact .inr hk)) (Below.refl _ _) (fun _ => rfl)
    (PlI w w1) (fun _ _ _ => False) (plI_own w w1 hf1.size) (fun _ _ _ _ _ hs _ _ => hs)
    ⟨.slice none 0 0, A0, RowI.nil _ _, (fun k hk => by cases hk), hf1, Nat.le_refl _, by simp⟩
    (fun x => { tmps := #[.slice none 0 0, seqV B1 B2 B3 B4, .pointer (some ⟨w.heap.size, 0, none⟩), undef, .slice none 0 0, .int .i64 x, seqV B1 B2 B3 B4, .int .i64 x, undef, undef, undef, undef, undef], defers := [] }) ?assign ?body ?done ?stop
  case assign =>
    intro y x W K hK
    gi_wp2
    exact hK
  case body =>
    rintro y pre x W ⟨v, h1, h2, h3, h4, h5, h6⟩ hlen
    obtain ⟨v1, w2, hrun, hrow1, hfr1⟩ := h2.push (fun k hk => (h2.1.lt k hk).2) x (by omega)
    have hno : ¬ Own1 v w.heap.size := fun h => by
      have := h3 _ h
      have := hf1.size
      have := HS0.out
      omega
    have g1 := h1.keep hfr1 hno
    have c0 := h1.cell 0
    have c1 := g1.cell 0
    have f1 := g1.frozen 0
    obtain ⟨sa, sc, hv1, _⟩ := hrow1.form
    obtain ⟨sn, hsn⟩ : ∃ sn, (pre ++ [x]).length = sn := ⟨_, rfl⟩
    rw [hsn] at hv1
    clear hsn
    simp at c0 c1
    have HRUN := Lib.hid hrun
    have hnew : ∀ k, v1.ownBlock = some k → w1.heap.size ≤ k := fun k hk => by
      rcases hrow1.2 k hk with h | h
      · exact h3 k h
      · omega
    have HK := Lib.hid ((h2.others hfr1).trans (KeepsOthers.setCell w2 ⟨w.heap.size, 0, none⟩ v1))
    have HT := Lib.hid (show Fr (fun k => k = w.heap.size ∨ w1.heap.size ≤ k) W (w2.setCell ⟨w.heap.size, 0, none⟩ v1) from
      (hfr1.sub (fun k _ hk => .inr (h3 k hk))).setCell (fun _ => .inl rfl) v1)
    have HI := Lib.hid (show PlI w w1 (pre ++ [x]) (w2.setCell ⟨w.heap.size, 0, none⟩ v1) from
      ⟨v1, g1.set_ 0 v1, hrow1.own.keep ((Fr.refl (One w.heap.size) w2).setCell (p := ⟨w.heap.size, 0, none⟩) (fun _ => rfl) v1) (fun k hk h => by
        have h1 := hnew k hk
        have h2 := hf1.size
        have h3 := HS0.out
        have h4 := A0.lt
        have h5 : k = w.heap.size := h
        omega), hnew, (h4.then_ hfr1 (fun k hk h => by
          have h1 := h3 k h
          have h2 := hf1.size
          omega)).setCell (fun h => absurd h (Nat.lt_irrefl _)) v1, by
        have := hfr1.size
        simp [World.setCell]
        omega, by simp; omega⟩)
    subst hv1
    clear hrun hrow1 hfr1 h1 h2 h3 h4 h5 g1 hno hnew
    gi_wp2_with (gi_at_builtin; refine wpListIn_append_run rfl _ _ 44 rfl rfl rfl HRUN.out ?_)
    exact ⟨HK.out.from _, HT.out, HI.out⟩
  case done =>
    rintro D ys W hD rfl ⟨v, h1, h2, h3, h4, h5, h6⟩ hK
    have c0 := h1.cell 0
    simp at c0
    gi_wp2
    refine ⟨by simp, .inl ⟨_, _, rfl, run_takeDeferred hK, ?_⟩⟩
    have hg := grownBy_putObj' W D (.deferred none)
    have hr : Turns w1.heap.size W (some D) := fun r e => by cases e; exact ⟨hD, _, hK, rfl⟩
    have k2 := own_rowI h2 hg hr
    have k4 := own_fr hf1.size h4 hg hr
    exact ⟨_, results_tmp rfl _ _ _, ⟨v, rfl, k2.sub (fun k hk hv => .inr ⟨Nat.le_trans hf1.size (h3 k hv), hk⟩), k4⟩⟩
  case stop =>
    rintro D c pre W _ _ h _
    exact h.elim
set_option maxHeartbeats 400000 in
theorem collect_c (B1 B2 B3 B4 : Nat) (l : List UInt8) (m c : Nat) (w : World) (hs : SeqAt w B1 B2 B3 B4 l m c) (hm : 0 < m) (hm2 : m ≤ 1000000000) (hc : c ≤ 64) :
    Calls Tryd.prog 32 #[seqV B1 B2 B3 B4] w (NewRowI (placesI l m c) w) := by
  have C1 := Lib.hid (appendSeq_c B1 B2 B3 B4 l m c w hs hm hm2 hc)
  clear hs
  go_enter Tryd.func32, Tryd.ntmps32
  go_wp2_with fail
  refine (show Calls _ _ _ _ _ from C1.out).mono ?_
  rintro e w1 ⟨v, rfl, h1, h2⟩
  go_wp2_with fail
  go_ret
  exact ⟨v, rfl, h1, h2⟩
/-- What probesOf hands back: an iterator over the key's probes. -/
theorem probesOf_s (a : Option Addr) (len cap : Nat) (l : List UInt8) (m c : Nat) (w : World) (hl : l.length = len) (hlm : len ≤ 1000000) (hr : Rd w a l) (ht : Tab w) :
    Calls Tryd.prog 27 #[.slice a len cap, .int .i64 (m : Int), .int .i64 (c : Int)] w fun e w' =>
      ∃ B1 B2 B3 B4, e = .returned (seqV B1 B2 B3 B4) ∧ Fr No w w' ∧ SeqAt w' B1 B2 B3 B4 l m c ∧ w.heap.size ≤ B1 ∧ w.heap.size ≤ B2 ∧ w.heap.size ≤ B3 ∧ w.heap.size ≤ B4 :=
  (probesOf_c a len cap l (m : Int) (c : Int) w hl hlm hr ht).mono fun e w' ⟨h1, h2, h3, h4, h5, h6, h7⟩ =>
    ⟨_, _, _, _, h1, h2, ⟨h5, h4, h3, h6⟩, by omega, by omega, Nat.le_refl _, by omega⟩
set_option maxHeartbeats 800000 in
theorem places_c (a : Option Addr) (len cap : Nat) (l : List UInt8) (m c : Nat) (w : World) (hl : l.length = len) (hlm : len ≤ 1000000) (hm : 1 ≤ m) (hm2 : m ≤ 16777216) (hc : 1 ≤ c) (hc2 : c ≤ 30) (hr : Rd w a l) (ht : Tab w) :
    Calls Tryd.prog 24 #[.slice a len cap, .int .i64 (m : Int), .int .i64 (c : Int)] w (NewRowI (placesI l m c) w) := by
  have C1 := Lib.hid (probesOf_s a len cap l m c w hl hlm hr ht)
  have d1 : decide ((m : Int) < 1) = false := decide_eq_false (by omega)
  have d2 : decide (16777216 < (m : Int)) = false := decide_eq_false (by omega)
  have CR : ∀ w, Calls Tryd.prog 31 #[.int .i64 (c : Int)] w fun e w' => e = .returned (.bool true) ∧ w = w' := fun w => by
    have h := right_c (c : Int) w (by omega) (by omega)
    rwa [decide_eq_true (by omega), decide_eq_true (by omega)] at h
  have CR := Lib.hid CR
  clear hr ht hl
  go_enter Tryd.func24, Tryd.ntmps24
  go_wp2_with fail
  refine (CR.out _).mono ?_
  rintro e w1 ⟨rfl, rfl⟩
  go_wp2_with fail
  refine (show Calls _ _ _ _ _ from C1.out).mono ?_
  rintro e w1 ⟨B1, B2, B3, B4, rfl, f1, hs, _, _, _, _⟩
  have C2 := Lib.hid (collect_c B1 B2 B3 B4 l m c w1 hs (by omega) (by omega) (by omega))
  have F1 := Lib.hid f1
  clear hs f1 C1 CR
  go_wp2_with fail
  refine (show Calls _ _ _ _ _ from C2.out).mono ?_
  rintro e w2 ⟨v, rfl, h1, h2⟩
  have HN : Hid (NewRowI (placesI l m c) w (.returned v) w2) := Lib.hid ⟨v, rfl, h1.sub (fun k _ hk => hk.elim .inl fun h => .inr ⟨Nat.le_trans F1.out.size h.1, h.2⟩), F1.out.trans h2⟩
  clear h1 h2 C2
  go_wp2_with fail
  go_ret
  exact HN.out
theorem dec_no (P : Prop) [Decidable P] (h : ¬ P) : decide P = false := decide_eq_false h
set_option maxHeartbeats 800000 in
/-- Where there are no probes, none are told. -/
theorem places_no (a : Option Addr) (len cap : Nat) (m c : Int) (w : World) (hm0 : -9223372036854775808 ≤ m) (hm1 : m ≤ 9223372036854775807) (hc0 : -9223372036854775808 ≤ c) (hc1 : c ≤ 9223372036854775807) (h : m < 1 ∨ 16777216 < m ∨ c < 1 ∨ 30 < c) :
    Calls Tryd.prog 24 #[.slice a len cap, .int .i64 m, .int .i64 c] w fun e w' => e = .returned (.slice none 0 0) ∧ w = w' := by
  by_cases h1 : m < 1
  · have d1 : decide (m < 1) = true := decide_eq_true h1
    go_enter Tryd.func24, Tryd.ntmps24
    go_wp2_with fail
    go_ret
    exact ⟨rfl, rfl⟩
  · have d1 : decide (m < 1) = false := decide_eq_false h1
    by_cases h2 : 16777216 < m
    · have d2 : decide (16777216 < m) = true := decide_eq_true h2
      go_enter Tryd.func24, Tryd.ntmps24
      go_wp2_with fail
      go_ret
      exact ⟨rfl, rfl⟩
    · have d2 : decide (16777216 < m) = false := decide_eq_false h2
      have CR : ∀ w, Calls Tryd.prog 31 #[.int .i64 c] w fun e w' => e = .returned (.bool false) ∧ w = w' := fun w => by
        have h3 := right_c c w hc0 hc1
        rwa [show (decide (1 ≤ c) && decide (c ≤ 30)) = false by
          rw [Bool.and_eq_false_iff, decide_eq_false_iff_not, decide_eq_false_iff_not]
          omega] at h3
      have CR := Lib.hid CR
      go_enter Tryd.func24, Tryd.ntmps24
      go_wp2_with fail
      refine (CR.out _).mono ?_
      rintro e w1 ⟨rfl, rfl⟩
      go_wp2_with fail
      go_ret
      exact ⟨rfl, rfl⟩
end Go.Proofs.YtbglicndccdaiaaDoor
