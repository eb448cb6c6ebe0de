/-
  Texts of layer 13 and of what it stands on, one behind the other.
-/
import Derived.Test.YtlobnbbndkhcbaaGreatDoorMg24
import Derived.Test.YtlobnbbndkhcbaaGreatDoorMg09
import Derived.PlainAid

/- Layer 4: contracts of a filter's Add and Has. -/
namespace Go.Proofs.YtlobnbbndkhcbaaGreatDoor
set_option linter.unusedVariables false
set_option linter.unusedSimpArgs false
open Go.RowKit Go.Shelf
attribute [local go_sem] Oper.semAt_some

/-- The places of a key's probes, each below the number of bits. -/
def placesG (a d m : Nat) (hm : 0 < m) (n : Nat) : List (Fin m) := (List.range n).map fun i => ⟨(a + i * d) % m, Nat.mod_lt _ hm⟩
theorem placesG_succ (a d m : Nat) (hm : 0 < m) (n p : Nat) (hp : p = n * d) : placesG a d m hm (n + 1) = placesG a d m hm n ++ [⟨(a + p) % m, Nat.mod_lt _ hm⟩] := by
  subst hp
  unfold placesG
  rw [List.range_succ, List.map_append]
  rfl
theorem placesG_length (a d m : Nat) (hm : 0 < m) (n : Nat) : (placesG a d m hm n).length = n := by simp [placesG]
theorem placesG_take (a d m : Nat) (hm : 0 < m) (n k : Nat) (h : k ≤ n) : placesG a d m hm k <+: placesG a d m hm n := by
  refine ⟨(placesG a d m hm n).drop k, ?_⟩
  have : placesG a d m hm k = (placesG a d m hm n).take k := by
    unfold placesG
    rw [← List.map_take, List.take_range, Nat.min_eq_left h]
  rw [this, List.take_append_drop]
theorem placesG_val (a d m : Nat) (hm : 0 < m) (n : Nat) : (placesG a d m hm n).map (·.val) = (List.range n).map fun i => (a + i * d) % m := by simp [placesG]
def placesF (l : List UInt8) (m : Nat) (hm : 0 < m) (n : Nat) : List (Fin m) := placesG (pA l) (pD l) m hm n
theorem placesF_succ (l : List UInt8) (m : Nat) (hm : 0 < m) (n p : Nat) (hp : p = n * pD l) : placesF l m hm (n + 1) = placesF l m hm n ++ [⟨(pA l + p) % m, Nat.mod_lt _ hm⟩] := placesG_succ _ _ m hm n p hp
theorem placesF_length (l : List UInt8) (m : Nat) (hm : 0 < m) (n : Nat) : (placesF l m hm n).length = n := placesG_length _ _ m hm n
theorem placesF_take (l : List UInt8) (m : Nat) (hm : 0 < m) (n k : Nat) (h : k ≤ n) : placesF l m hm k <+: placesF l m hm n := placesG_take _ _ m hm n k h
theorem placesF_val (l : List UInt8) (m : Nat) (hm : 0 < m) (n : Nat) : (placesF l m hm n).map (·.val) = places l m n := placesG_val _ _ m hm n
set_option maxRecDepth 100000 in
set_option maxHeartbeats 2000000 in
theorem probesF_in (n : Nat) (hn : 1 ≤ n) (y B1 B2 B3 B4 : Nat) (T : Nat → Prop) (l : List UInt8) (m c : Nat) (hm : 0 < m) (hm2 : m ≤ 1000000000) (hc : c ≤ 64) (J Jx : List (Fin m) → World → Prop)
    (hY : ∀ pre x W, J pre W → pre.length < c → YieldAt Fence.wide (n - 1) Tryz.prog y #[.int .i64 ((x.val : Nat) : Int)] W fun e W' =>
      (e = .returned (.bool true) ∧ J (pre ++ [x]) W' ∧ Fr T W W') ∨ (e = .returned (.bool false) ∧ Jx (pre ++ [x]) W'))
    (W : World) (b3 : ¬ T B3) (b4 : ¬ T B4) (c1 : W.cell? ⟨B1, 0, none⟩ = some (.int .u32 ((pA l : Nat) : Int))) (c2 : W.cell? ⟨B2, 0, none⟩ = some (.int .i64 (c : Int))) (c3 : W.cell? ⟨B3, 0, none⟩ = some (.int .i64 (m : Int))) (c4 : W.cell? ⟨B4, 0, none⟩ = some (.int .u64 ((pD l : Nat) : Int))) (h0 : J [] W) :
    CallsIn Fence.wide n Tryz.prog 120 #[.func (.yield y) #[] #[], .pointer (some ⟨B1, 0, none⟩), .pointer (some ⟨B2, 0, none⟩), .pointer (some ⟨B3, 0, none⟩), .pointer (some ⟨B4, 0, none⟩)] W fun e W' => (∃ v, e = .returned v) ∧
      ((∃ ys, ys = placesF l m hm c ∧ J ys W') ∨ (∃ pre, pre <+: placesF l m hm c ∧ Jx pre W')) := by
  have hA := pA_lt l
  have hD := pD_lt l
  have HS := Lib.hid (placesF_succ l m hm)
  have HT := Lib.hid (placesF_take l m hm)
  have HL := Lib.hid (placesF_length l m hm)
  have HP := Lib.hid (show ∀ i, i ≤ 64 → i * pD l ≤ 64 * 4294967297 from fun i hi => Nat.mul_le_mul hi (Nat.le_of_lt hD))
  generalize pA l = A at *
  generalize pD l = D at *
  refine callsIn_of_wp Tryz.func120 rfl trivial ?_ rfl
  simp only [Tryz.ntmps120, List.size_toArray, List.length_cons, List.length_nil, Nat.reduceAdd, Nat.reduceSub, Array.replicate_succ, Array.replicate_zero, List.push_toArray, List.append_toArray, List.nil_append, List.cons_append]
  gi_wp2
  gi_loopw [6, 10] (fun u i wr => ∃ k p : Nat, i = .int .i64 k ∧ k ≤ c ∧ u = .int .u64 ((A : Int) + (p : Int)) ∧ p = k * D ∧ J (placesF l m hm k) wr ∧ Fr T W wr) (fun _ i _ => c - (intOf i).toNat)
  case atStart => exact ⟨0, 0, rfl, Nat.zero_le _, rfl, by simp, h0, Fr.refl _ _⟩
  case round =>
    obtain ⟨k, p, rfl, hk, rfl, hp, hJ, hb⟩ := hrel
    have c3' := hb.cell (p := ⟨B3, 0, none⟩) c3 b3
    have c4' := hb.cell (p := ⟨B4, 0, none⟩) c4 b4
    by_cases h1 : k < c
    · have hps := HP.out k (by omega)
      have hp64 : p ≤ 64 * 4294967297 := by omega
      obtain ⟨xk, hxk⟩ : ∃ xk : Fin m, xk.val = (A + p) % m := ⟨⟨_, Nat.mod_lt _ hm⟩, rfl⟩
      have hst : placesF l m hm (k + 1) = placesF l m hm k ++ [xk] := (HS.out k p hp).trans (congrArg (fun x => placesF l m hm k ++ [x]) (Fin.ext hxk.symm))
      have ec : ((xk.val : Nat) : Int) = ((A : Int) + (p : Int)) % (m : Int) := by rw [hxk]; simp
      have hlt : ((A : Int) + (p : Int)) % (m : Int) < m := Int.emod_lt_of_pos _ (by omega)
      have hge : 0 ≤ ((A : Int) + (p : Int)) % (m : Int) := Int.emod_nonneg _ (by omega)
      have hlen : (placesF l m hm k).length < c := by rw [HL.out]; exact h1
      have HPk := Lib.hid hp
      clear hp hps
      have hy0 := hY (placesF l m hm k) xk wr hJ hlen
      rw [ec] at hy0
      clear ec hxk
      obtain ⟨fn, tmps, assign, body, hy, hR⟩ := hy0
      gi_wp2
      refine hR.mono ?_
      rintro e W3 (⟨rfl, hJ3, hk3⟩ | ⟨rfl, hJx3⟩)
      · rw [← hst] at hJ3
        have c4'' := hk3.cell (p := ⟨B4, 0, none⟩) c4' b4
        gi_wp2
        go_roundw
        case rel => exact ⟨k + 1, p + D, by simp, by omega, by simp; omega, by rw [HPk.out, Nat.succ_mul], hJ3, hb.trans hk3⟩
        case measure => simp [intOf]; omega
      · rw [← hst] at hJx3
        gi_wp2
        refine bodyPost_ret (results_none rfl _ _ _) rfl ?_
        exact ⟨⟨_, rfl⟩, .inr ⟨_, HT.out c (k + 1) (by omega), hJx3⟩⟩
    · have hkc : k = c := by omega
      subst hkc
      gi_wp2
      go_end0
      exact ⟨⟨_, rfl⟩, .inl ⟨_, rfl, hJ⟩⟩

theorem SeqAt.stopsF {w : World} {B1 B2 B3 B4 : Nat} {l : List UInt8} {m c : Nat} (h : SeqAt w B1 B2 B3 B4 l m c) (n : Nat) (hn : 1 ≤ n) (T : Nat → Prop) (hm : 0 < m) (hm2 : m ≤ 1000000000) (hc : c ≤ 64) (b3 : ¬ T B3) (b4 : ¬ T B4) :
    SeqStopsK Fence.wide n Tryz.prog 120 #[.pointer (some ⟨B1, 0, none⟩), .pointer (some ⟨B2, 0, none⟩), .pointer (some ⟨B3, 0, none⟩), .pointer (some ⟨B4, 0, none⟩)] (fun x : Fin m => #[Value.int .i64 ((x.val : Nat) : Int)]) (Fr T) (fun ys => ys = placesF l m hm c) (fun pre => pre <+: placesF l m hm c) c w :=
  fun y J Jx W hW _ _ hY h0 => by
    have k : ∀ {p : Addr} {v : Value}, w.cell? p = some v → W.cell? p = some v := fun h => (hW.cell (cell_block h)).trans h
    exact probesF_in n hn y B1 B2 B3 B4 T l m c hm hm2 hc J Jx hY W b3 b4 (k h.c1) (k h.c2) (k h.c3) (k h.c4) h0
/-- What the rounds of Add keep. -/
def AddI (w w1 : World) (b g : Nat) (bs : List UInt8) (p B0 : Nat) (m : Nat) (pre : List (Fin m)) (W : World) : Prop :=
  Fil W b g (putAll bs (pre.map (·.val))) p ∧ At W B0 81 #[.pointer (some ⟨b, 0, none⟩)] ∧ Fr (One g) w W ∧ w1.heap.size ≤ W.heap.size
theorem own_fil {W W' : World} {row : Option Nat} {B b g p : Nat} {bs : List UInt8} (h : Fil W b g bs p) (hg : W.grownBy W' row) (hr : Turns B W row) : Fil W' b g bs p := by
  obtain ⟨c, h3, h4, h5⟩ := h.ob
  exact ⟨⟨c, own_at h3 hg hr, own_row h4 hg hr, h5⟩, h.ne⟩
theorem own_frS {S : Nat → Prop} {w W W' : World} {row : Option Nat} {B : Nat} (hB : w.heap.size ≤ B) (h : Fr S w W) (hg : W.grownBy W' row) (hr : Turns B W row) : Fr S w W' :=
  ⟨hg.os.trans h.os, hg.tape.trans h.tape, hg.output.trans h.output, Nat.le_trans h.size hg.size, fun k hk hn =>
    (hg.block k (Nat.lt_of_lt_of_le hk h.size) (fun e => by have := (hr k e.symm).1; omega)).trans (h.block k hk hn)⟩
theorem addI_own (w w1 : World) (b g : Nat) (bs : List UInt8) (p B0 m : Nat) (h : w.heap.size ≤ w1.heap.size) : OwnFrom w1.heap.size (AddI w w1 b g bs p B0 m) := fun pre W W' row ⟨h1, h2, h3, h4⟩ hg hr =>
  ⟨own_fil h1 hg hr, own_at h2 hg hr, own_frS h h3 hg hr, Nat.le_trans h4 hg.size⟩
set_option maxRecDepth 100000 in
set_option maxHeartbeats 2000000 in
theorem add_c (b g : Nat) (bs : List UInt8) (p : Nat) (a : Option Addr) (len cap : Nat) (l : List UInt8) (w : World) (hf : Fil w b g bs p) (hl : l.length = len) (hlm : len ≤ 1000000) (hr : Rd w a l) (ht : Tab w) (hN0 : 0 < bs.length) (hN1 : bs.length ≤ 100000000) (hp : p ≤ 64) :
    Calls Tryz.prog 75 #[.pointer (some ⟨b, 0, none⟩), .slice a len cap] w fun e w' => e = .returned (.tuple #[]) ∧ Fil w' b g (putAll bs (places l (8 * bs.length) p)) p ∧ Fr (One g) w w' := by
  refine (callsIn_wide (n := 5)).1 ?_
  refine callsIn_of_wp_marks Tryz.func75 rfl trivial ?_ rfl
  simp only [Tryz.ntmps75, List.size_toArray, List.length_cons, List.length_nil, Nat.reduceAdd, Nat.reduceSub, Array.replicate_succ, Array.replicate_zero, List.push_toArray, List.append_toArray, List.nil_append, List.cons_append]
  refine wpIn_wide.2 ?_
  have A0 : At _ w.heap.size _ _ := At.new w 81 #[.pointer (some ⟨b, 0, none⟩)]
  have hf0 := (Fr.refl No w).alloc (.cells #[.pointer (some ⟨b, 0, none⟩)] 81)
  have hS0 : (w.alloc (.cells #[.pointer (some ⟨b, 0, none⟩)] 81)).heap.size = w.heap.size + 1 := by simp
  go_wp2_with fail
  generalize w.alloc (.cells #[.pointer (some ⟨b, 0, none⟩)] 81) = W0 at *
  have fil0 := hf.keep hf0 (fun h => h) (fun h => h)
  obtain ⟨cc, d0, d1, _, _, _⟩ := fil0.cells
  have d2 := A0.cell 0
  simp at d2
  have CB := Lib.hid (bits_c b g bs p W0.drew (fil0.keep ((Fr.refl No W0).drew) (fun h => h) (fun h => h)) (by omega))
  have CP := Lib.hid (probesOf_s a len cap l (8 * bs.length) p W0.drew hl hlm ((hr.keep hf0).keep ((Fr.refl No W0).drew)) (fun i hi => ((hf0.drew).cell (ht i hi) (fun h => h))))
  have HA := Lib.hid A0
  have HF0 := Lib.hid hf0
  have HFil := Lib.hid hf
  have HS0 := Lib.hid hS0
  clear A0 hf0 hf hS0 hr ht hl fil0
  go_region_held3 (fun w' => w'.cell? ⟨w.heap.size, 0, none⟩ = some (.pointer (some ⟨b, 0, none⟩)) ∧ w'.cell? ⟨b, 0, none⟩ = some (.int .i64 (p : Int))) (first | assumption | go_keep)
    (first
      | (go_at_call 86; refine (show Calls _ _ _ _ _ from CB.out).mono ?_; rintro e w2 ⟨rfl, rfl⟩)
      | (go_at_call 85; refine (show Calls _ _ _ _ _ from CP.out).mono ?_; rintro e w2 ⟨B1, B2, B3, B4, rfl, hf, hs, hb1, hb2, hb3, hb4⟩
         have d2 := hf.cell (p := ⟨w.heap.size, 0, none⟩) (v := .pointer (some ⟨b, 0, none⟩)) d2 (fun h => h)
         have d0 := hf.cell (p := ⟨b, 0, none⟩) (v := .int .i64 (p : Int)) d0 (fun h => h)
         have HF2 := Lib.hid hf
         clear hf))
  go_wp2_with fail
  rename_i hHeld
  clear hHeld
  refine (wpIn_wide (n := 5)).1 ?_
  obtain ⟨m, hm⟩ : ∃ m, 8 * bs.length = m := ⟨_, rfl⟩
  have hm0 : 0 < m := by omega
  have HM := Lib.hid hm
  have hf1 := HF0.out.trans ((Fr.refl No W0).drew.trans HF2.out)
  rw [hm] at hs
  have hsz : w.heap.size + 1 ≤ w2.heap.size := by
    have h3 := HF2.out.size
    have h4 := HS0.out
    have h5 : W0.drew.heap.size = W0.heap.size := rfl
    omega
  have hg : g < w.heap.size := HFil.out.lt.2
  have hb : b < w.heap.size := HFil.out.lt.1
  have hd : W0.drew.heap.size = w.heap.size + 1 := HS0.out
  rw [hd] at hb1 hb2 hb3 hb4
  have hB3 : B3 < w2.heap.size := cell_block hs.c3
  have hB4 : B4 < w2.heap.size := cell_block hs.c4
  refine wpIn_rangeFunc_ownG rfl (by omega) (gf := 120) (lb := #[.pointer (some ⟨B1, 0, none⟩), .pointer (some ⟨B2, 0, none⟩), .pointer (some ⟨B3, 0, none⟩), .pointer (some ⟨B4, 0, none⟩)]) rfl trivial (enters_of Tryz.func120 (by kernel_rfl) rfl)
    (hs.stopsF 4 (by omega) (fun k => k = g ∨ w2.heap.size ≤ k) hm0 (by omega) hp (fun h => by omega) (fun h => by omega))
    (fun h k => h.trans k) (fun W k o o' hk _ _ _ => Fr.grown (grownBy_putObj' W k o') (fun j e => by cases e; exact .inr hk)) (Below.refl _ _) (fun _ => rfl)
    (AddI w w2 b g bs p w.heap.size m) (fun _ _ _ => False) (addI_own w w2 b g bs p w.heap.size m hf1.size) (fun _ _ _ _ _ hs _ _ => hs)
    ⟨HFil.out.keep hf1 (fun h => h) (fun h => h), (HA.out.keep ((Fr.refl No W0).drew) (fun h => h)).keep HF2.out (fun h => h), hf1.sub (fun _ _ h => h.elim), Nat.le_refl _⟩
    (fun x => { tmps := #[.pointer (some ⟨b, 0, none⟩), .slice a len cap, .pointer (some ⟨w.heap.size, 0, none⟩), undef, .int .i64 ((x.val : Nat) : Int), .slice a len cap, .pointer (some ⟨b, 0, none⟩), .int .i64 (8 * (bs.length : Int)), .pointer (some ⟨b, 0, none⟩), .pointer (some ⟨b, 0, none⟩), .pointer (some ⟨b, 0, none⟩), .int .i64 (p : Int), seqPr B1 B2 B3 B4, .int .i64 ((x.val : Nat) : Int), undef, undef, undef, undef, undef, undef, undef, undef, undef, undef, undef, undef], defers := [] }) ?assign ?body ?done ?stop
  case assign =>
    intro y x W K hK
    gi_wp2
    exact hK
  case body =>
    rintro y pre x W ⟨h1, h2, h3, h4⟩ hlen
    have c2 := h2.cell 0
    simp at c2
    have hxm := x.isLt
    obtain ⟨B, hB⟩ : ∃ B, putAll bs (pre.map (·.val)) = B := ⟨_, rfl⟩
    have hsn : putAll bs ((pre ++ [x]).map (·.val)) = putB B x.val := by rw [List.map_append, List.map_cons, List.map_nil, putAll_snoc, hB]
    have hBl : B.length = bs.length := by rw [← hB, putAll_length]
    rw [hB] at h1
    obtain ⟨cc, _, c1, hc1, hc2, _⟩ := h1.cells
    have HPUT := (h1.keep ((Fr.refl No W).drew) (fun h => h) (fun h => h)).put (i := x.val) (by omega) _ rfl
    obtain ⟨cq, fq⟩ := h1.bytes (x.val / 8) (by omega)
    have hor := or_lt256 (B.getD (x.val / 8) 0).toNat (x.val % 8) (u8_lt _) (by omega)
    have hv := u8_lt (B.getD (x.val / 8) 0)
    have hE : 2 ^ (x.val % 8) < 2 ^ 8 := Nat.pow_lt_pow_right (by decide) (by omega)
    have CBIT := fun w => bit_c x.val w (by omega)
    have HSN := Lib.hid hsn
    have h2' := Lib.hid h2
    have h3' := Lib.hid h3
    have h4' := Lib.hid h4
    rw [hBl] at c1 hc1
    have hm' := hm
    generalize bs.length = N at *
    have hq8 : x.val / 8 < N := by omega
    generalize x.val = q at *
    generalize (B.getD (q / 8) 0).toNat = v at *
    generalize 2 ^ (q % 8) = E at *
    have hor2 := u8_or (v : Int) (E : Int) (by omega) (by omega) (by omega) (by omega)
    rw [Int.toNat_natCast, Int.toNat_natCast] at hor2
    generalize v ||| E = O at *
    have HPUT := Lib.hid HPUT
    have CBIT := Lib.hid CBIT
    clear hsn hB hBl h1 h2 h3 h4 CB CP
    have hbg : ¬ b = g := HFil.out.ne
    have hw8 : IntKind.i64.wrap ((q : Int) / 8) = ((q / 8 : Nat) : Int) := by
      rw [PlainAid.i64_is]
      unfold wrap64
      omega
    generalize q / 8 = q8 at *
    have hq1 : (0 : Int) ≤ (q8 : Int) := by omega
    have hq2 : (q8 : Int) < (N : Int) := by omega
    have hB0g : ¬ w.heap.size = g := by omega
    have FIN := Lib.hid (show KeepsFrom w2.heap.size W (W.drew.setCell ⟨g, q8, none⟩ (.int .u8 (O : Int))) ∧ Fr (fun k => k = g ∨ w2.heap.size ≤ k) W (W.drew.setCell ⟨g, q8, none⟩ (.int .u8 (O : Int))) ∧ AddI w w2 b g bs p w.heap.size m (pre ++ [x]) (W.drew.setCell ⟨g, q8, none⟩ (.int .u8 (O : Int))) from by
      have f0 := ((Fr.refl No W).drew.sub (fun _ _ h => h.elim)).trans HPUT.out.2
      refine ⟨((KeepsOthers.drew W).trans (KeepsOthers.setCell _ _ _)).from _, f0.sub (fun k _ h => .inl h), ?_, h2'.out.keep f0 (fun h => hB0g h), h3'.out.trans f0, Nat.le_trans h4'.out f0.size⟩
      rw [HSN.out]
      exact HPUT.out.1)
    refine wpIn_block ?_
    refine wpIn_region_round (S := fun w' => w'.cell? ⟨w.heap.size, 0, none⟩ = some (.pointer (some ⟨b, 0, none⟩)) ∧ w'.cell? ⟨b, 1, none⟩ = some (.slice (some ⟨g, 0, none⟩) N cc)) (by kernel_rfl) (by kernel_rfl) (fun ⟨_, _, h⟩ => h) ⟨c2, c1⟩ (fun hSx => ?_)
    refine take_drop (i := 0) (v := ?v0) rfl (by kernel_rfl) (by kernel_rfl) (by kernel_rfl) (fun _ _ _ h => h) (Or.inl ⟨by rfl, ?h0⟩) hSx ?r0
    case h0 => (intro wS hSw; obtain ⟨s1, s2⟩ := hSw; go_simp; all_goals (with_reducible rfl))
    simp only [Act.put, List.setIfInBounds_toArray, List.set_cons_zero, List.set_cons_succ]
    refine take_drop (i := 1) (v := ?v1) rfl (by kernel_rfl) (by kernel_rfl) (by kernel_rfl) (fun _ _ _ h => h) (Or.inl ⟨by rfl, ?h1⟩) hSx ?r1
    case h1 => (intro wS hSw; obtain ⟨s1, s2⟩ := hSw; go_simp; all_goals (with_reducible rfl))
    simp only [Act.put, List.setIfInBounds_toArray, List.set_cons_zero, List.set_cons_succ]
    refine take_drop (i := 2) (v := ?v2) rfl (by kernel_rfl) (by kernel_rfl) (by kernel_rfl) (fun _ _ _ h => h) (Or.inl ⟨by rfl, ?h2⟩) hSx ?r2
    case h2 => (intro wS hSw; obtain ⟨s1, s2⟩ := hSw; go_simp; all_goals (with_reducible rfl))
    simp only [Act.put, List.setIfInBounds_toArray, List.set_cons_zero, List.set_cons_succ]
    refine take_drop (i := 3) (v := ?v3) rfl (by kernel_rfl) (by kernel_rfl) (by kernel_rfl) (fun _ _ _ h => h) (Or.inl ⟨by rfl, ?h3⟩) hSx ?r3
    case h3 => (intro wS hSw; obtain ⟨s1, s2⟩ := hSw; go_simp; all_goals (with_reducible rfl))
    simp only [Act.put, List.setIfInBounds_toArray, List.set_cons_zero, List.set_cons_succ]
    refine take_drop (i := 4) (v := ?v4) rfl (by kernel_rfl) (by kernel_rfl) (by kernel_rfl) (fun _ _ _ h => h) (Or.inl ⟨by rfl, ?h4⟩) hSx ?r4
    case h4 => (intro wS hSw; obtain ⟨s1, s2⟩ := hSw; go_simp; all_goals (with_reducible rfl))
    simp only [Act.put, List.setIfInBounds_toArray, List.set_cons_zero, List.set_cons_succ]
    refine take_drop (i := 5) (v := ?v5) rfl (by kernel_rfl) (by kernel_rfl) (by kernel_rfl) (fun _ _ _ h => h) (Or.inl ⟨by rfl, ?h5⟩) hSx ?r5
    case h5 => (intro wS hSw; obtain ⟨s1, s2⟩ := hSw; go_simp; all_goals (with_reducible rfl))
    simp only [Act.put, List.setIfInBounds_toArray, List.set_cons_zero, List.set_cons_succ]
    refine take_drop (i := 6) (v := ?v6) rfl (by kernel_rfl) (by kernel_rfl) (by kernel_rfl) (fun _ _ _ h => h) (Or.inl ⟨by rfl, ?h6⟩) hSx ?r6
    case h6 => (intro wS hSw; obtain ⟨s1, s2⟩ := hSw; go_simp; all_goals (with_reducible rfl))
    simp only [Act.put, List.setIfInBounds_toArray, List.set_cons_zero, List.set_cons_succ]
    refine take_drop (i := 8) (v := ?v8) rfl (by kernel_rfl) (by kernel_rfl) (by kernel_rfl) (fun _ _ _ h => h) (Or.inl ⟨by rfl, ?h8⟩) hSx ?r8
    case h8 => (intro wS hSw; obtain ⟨s1, s2⟩ := hSw; go_simp; all_goals (with_reducible rfl))
    simp only [Act.put, List.setIfInBounds_toArray, List.set_cons_zero, List.set_cons_succ]
    refine wpAnyH_ready (rs := [7, 9]) (by kernel_rfl) (by simp) ?_
    refine do_drop (i := 7) rfl (fun K hK => ?_) ?_
    · go_simp
      refine hK.out _ _ hSx ?_
      clear hK K
      try simp only [Act.put, List.setIfInBounds_toArray, List.set_cons_zero, List.set_cons_succ]
      refine wpAnyH_ready (rs := [9]) (by kernel_rfl) (by simp) ?_
      refine do_drop (i := 9) rfl (fun K hK => ?_) AllReadyH.nil
      go_simp
      refine (CBIT.out _).mono ?_
      rintro e wc ⟨rfl, rfl⟩
      refine hK.out _ _ hSx ?_
      clear hK K
      try simp only [Act.put, List.setIfInBounds_toArray, List.set_cons_zero, List.set_cons_succ]
      refine take_drop (i := 10) (v := ?v10) rfl (by kernel_rfl) (by kernel_rfl) (by kernel_rfl) (fun _ _ _ h => h) (Or.inl ⟨by rfl, ?h10⟩) hSx ?r10
      case h10 => (intro wS hSw; obtain ⟨s1, s2⟩ := hSw; go_simp; all_goals (with_reducible rfl))
      simp only [Act.put, List.setIfInBounds_toArray, List.set_cons_zero, List.set_cons_succ]
      refine take_drop (i := 11) (v := ?v11) rfl (by kernel_rfl) (by kernel_rfl) (by kernel_rfl) (fun _ _ _ h => h) (Or.inl ⟨by rfl, ?h11⟩) hSx ?r11
      case h11 => (intro wS hSw; obtain ⟨s1, s2⟩ := hSw; go_simp; all_goals (with_reducible rfl))
      simp only [Act.put, List.setIfInBounds_toArray, List.set_cons_zero, List.set_cons_succ]
      refine wpAnyH_ready (rs := [12]) (by kernel_rfl) (by simp) ?_
      refine do_drop (i := 12) rfl (fun K hK => ?_) AllReadyH.nil
      go_simp
      refine hK.out _ _ ⟨HPUT.out.2.cell hSx.1 (fun h => hB0g h), HPUT.out.2.cell hSx.2 (fun h => hbg h)⟩ ?_
      clear hK K
      refine wpAnyH_done (by kernel_rfl) ?_ _
      exact FIN.out
    refine do_drop (i := 9) rfl (fun K hK => ?_) AllReadyH.nil
    go_simp
    refine (CBIT.out _).mono ?_
    rintro e wc ⟨rfl, rfl⟩
    refine hK.out _ _ hSx ?_
    clear hK K
    try simp only [Act.put, List.setIfInBounds_toArray, List.set_cons_zero, List.set_cons_succ]
    refine wpAnyH_ready (rs := [7]) (by kernel_rfl) (by simp) ?_
    refine do_drop (i := 7) rfl (fun K hK => ?_) AllReadyH.nil
    go_simp
    refine hK.out _ _ hSx ?_
    clear hK K
    try simp only [Act.put, List.setIfInBounds_toArray, List.set_cons_zero, List.set_cons_succ]
    refine take_drop (i := 10) (v := ?v10b) rfl (by kernel_rfl) (by kernel_rfl) (by kernel_rfl) (fun _ _ _ h => h) (Or.inl ⟨by rfl, ?h10b⟩) hSx ?r10b
    case h10b => (intro wS hSw; obtain ⟨s1, s2⟩ := hSw; go_simp; all_goals (with_reducible rfl))
    simp only [Act.put, List.setIfInBounds_toArray, List.set_cons_zero, List.set_cons_succ]
    refine take_drop (i := 11) (v := ?v11b) rfl (by kernel_rfl) (by kernel_rfl) (by kernel_rfl) (fun _ _ _ h => h) (Or.inl ⟨by rfl, ?h11b⟩) hSx ?r11b
    case h11b => (intro wS hSw; obtain ⟨s1, s2⟩ := hSw; go_simp; all_goals (with_reducible rfl))
    simp only [Act.put, List.setIfInBounds_toArray, List.set_cons_zero, List.set_cons_succ]
    refine wpAnyH_ready (rs := [12]) (by kernel_rfl) (by simp) ?_
    refine do_drop (i := 12) rfl (fun K hK => ?_) AllReadyH.nil
    go_simp
    refine hK.out _ _ ⟨HPUT.out.2.cell hSx.1 (fun h => hB0g h), HPUT.out.2.cell hSx.2 (fun h => hbg h)⟩ ?_
    clear hK K
    refine wpAnyH_done (by kernel_rfl) ?_ _
    exact FIN.out
  case done =>
    rintro D ys W hD rfl ⟨h1, h2, h3, h4⟩ hK
    rw [placesF_val] at h1
    gi_wp2
    refine ⟨by simp, .inl ⟨_, _, rfl, run_takeDeferred hK, ?_⟩⟩
    have hg := grownBy_putObj' W D (.deferred none)
    have hr : Turns w2.heap.size W (some D) := fun r e => by cases e; exact ⟨hD, _, hK, rfl⟩
    rw [HM.out]
    exact ⟨_, results_none rfl _ _ _, rfl, own_fil h1 hg hr, own_frS hf1.size h3 hg hr⟩
  case stop =>
    rintro D c pre W _ _ h _
    exact h.elim
end Go.Proofs.YtlobnbbndkhcbaaGreatDoor

/- Layer 4: the contract of a filter's Has. -/
namespace Go.Proofs.YtlobnbbndkhcbaaGreatDoor
set_option linter.unusedVariables false
set_option linter.unusedSimpArgs false
open Go.RowKit Go.Shelf
attribute [local go_sem] Oper.semAt_some

/-- What the rounds of Has keep. -/
def HasI (w w1 : World) (b g : Nat) (bs : List UInt8) (p B0 : Nat) (m : Nat) (pre : List (Fin m)) (W : World) : Prop :=
  hasB bs (pre.map (·.val)) = true ∧ At W B0 81 #[.pointer (some ⟨b, 0, none⟩)] ∧ At W (B0 + 1) 4 #[.bool false] ∧ Fr No w W ∧ w1.heap.size ≤ W.heap.size
def HasX (w w1 : World) (bs : List UInt8) (B0 : Nat) (m : Nat) (c : Code) (pre : List (Fin m)) (W : World) : Prop :=
  c = .ret ∧ hasB bs (pre.map (·.val)) = false ∧ At W (B0 + 1) 4 #[.bool false] ∧ Fr No w W
theorem hasI_own (w w1 : World) (b g : Nat) (bs : List UInt8) (p B0 m : Nat) (h : w.heap.size ≤ w1.heap.size) : OwnFrom w1.heap.size (HasI w w1 b g bs p B0 m) := fun pre W W' row ⟨h1, h2, h3, h4, h5⟩ hg hr =>
  ⟨h1, own_at h2 hg hr, own_at h3 hg hr, own_frS h h4 hg hr, Nat.le_trans h5 hg.size⟩
theorem hasX_own (w w1 : World) (bs : List UInt8) (B0 m : Nat) (h : w.heap.size ≤ w1.heap.size) (c : Code) : OwnFrom w1.heap.size (HasX w w1 bs B0 m c) := fun pre W W' row ⟨h1, h2, h3, h4⟩ hg hr =>
  ⟨h1, h2, own_at h3 hg hr, own_frS h h4 hg hr⟩
theorem hasB_snoc (bs : List UInt8) (ps : List Nat) (q : Nat) : hasB bs (ps ++ [q]) = (hasB bs ps && bitB bs q) := by simp [hasB]
theorem and_bit (v k : Nat) : v &&& 2 ^ k = if v.testBit k then 2 ^ k else 0 := by
  cases hb : v.testBit k
  · simp only [Bool.false_eq_true, if_false]
    apply Nat.eq_of_testBit_eq
    intro i
    rw [Nat.testBit_and, Nat.testBit_two_pow, Nat.zero_testBit]
    by_cases e : k = i
    · subst e; rw [hb]; rfl
    · simp [e]
  · simp only [if_true]
    apply Nat.eq_of_testBit_eq
    intro i
    rw [Nat.testBit_and, Nat.testBit_two_pow]
    by_cases e : k = i
    · subst e; rw [hb]; simp
    · simp [e]
theorem hasB_pre (bs : List UInt8) (x y : List Nat) (h : x <+: y) (hx : hasB bs x = false) : hasB bs y = false := by
  obtain ⟨t, rfl⟩ := h
  unfold hasB at *
  rw [List.all_append, hx, Bool.false_and]
set_option maxRecDepth 100000 in
set_option maxHeartbeats 2000000 in
theorem has_c (b g : Nat) (bs : List UInt8) (p : Nat) (a : Option Addr) (len cap : Nat) (l : List UInt8) (w : World) (hf : Fil w b g bs p) (hl : l.length = len) (hlm : len ≤ 1000000) (hr : Rd w a l) (ht : Tab w) (hN0 : 0 < bs.length) (hN1 : bs.length ≤ 100000000) (hp : p ≤ 64) :
    Calls Tryz.prog 55 #[.pointer (some ⟨b, 0, none⟩), .slice a len cap] w fun e w' => e = .returned (.bool (hasB bs (places l (8 * bs.length) p))) ∧ Fr No w w' := by
  refine (callsIn_wide (n := 5)).1 ?_
  refine callsIn_of_wp_marks Tryz.func55 rfl trivial ?_ rfl
  simp only [Tryz.ntmps55, List.size_toArray, List.length_cons, List.length_nil, Nat.reduceAdd, Nat.reduceSub, Array.replicate_succ, Array.replicate_zero, List.push_toArray, List.append_toArray, List.nil_append, List.cons_append]
  refine wpIn_wide.2 ?_
  have A0 := (At.new' w 81 #[.pointer (some ⟨b, 0, none⟩)] rfl).alloc (.cells #[.bool false] 4)
  have A1 := At.new' (w.alloc (.cells #[.pointer (some ⟨b, 0, none⟩)] 81)) 4 #[.bool false] (g := w.heap.size + 1) (by simp)
  have hf0 := ((Fr.refl No w).alloc (.cells #[.pointer (some ⟨b, 0, none⟩)] 81)).alloc (.cells #[.bool false] 4)
  have hS0 : ((w.alloc (.cells #[.pointer (some ⟨b, 0, none⟩)] 81)).alloc (.cells #[.bool false] 4)).heap.size = w.heap.size + 2 := by simp
  go_wp2_with fail
  generalize (w.alloc (.cells #[.pointer (some ⟨b, 0, none⟩)] 81)).alloc (.cells #[.bool false] 4) = W0 at *
  have fil0 := hf.keep hf0 (fun h => h) (fun h => h)
  obtain ⟨cc, d0, d1, _, _, _⟩ := fil0.cells
  have d2 := A0.cell 0
  simp at d2
  have CB := Lib.hid (bits_c b g bs p W0.drew (fil0.keep ((Fr.refl No W0).drew) (fun h => h) (fun h => h)) (by omega))
  have CP := Lib.hid (probesOf_s a len cap l (8 * bs.length) p W0.drew hl hlm ((hr.keep hf0).keep ((Fr.refl No W0).drew)) (fun i hi => ((hf0.drew).cell (ht i hi) (fun h => h))))
  have HA := Lib.hid A0
  have HA1 := Lib.hid A1
  have HF0 := Lib.hid hf0
  have HFil := Lib.hid hf
  have HS0 := Lib.hid hS0
  clear A0 A1 hf0 hf hS0 hr ht hl fil0
  go_region_held3 (fun w' => w'.cell? ⟨w.heap.size, 0, none⟩ = some (.pointer (some ⟨b, 0, none⟩)) ∧ w'.cell? ⟨b, 0, none⟩ = some (.int .i64 (p : Int))) (first | assumption | go_keep)
    (first
      | (go_at_call 86; refine (show Calls _ _ _ _ _ from CB.out).mono ?_; rintro e w2 ⟨rfl, rfl⟩)
      | (go_at_call 85; refine (show Calls _ _ _ _ _ from CP.out).mono ?_; rintro e w2 ⟨B1, B2, B3, B4, rfl, hf, hs, hb1, hb2, hb3, hb4⟩
         have d2 := hf.cell (p := ⟨w.heap.size, 0, none⟩) (v := .pointer (some ⟨b, 0, none⟩)) d2 (fun h => h)
         have d0 := hf.cell (p := ⟨b, 0, none⟩) (v := .int .i64 (p : Int)) d0 (fun h => h)
         have HF2 := Lib.hid hf
         clear hf))
  go_wp2_with fail
  rename_i hHeld
  clear hHeld
  refine (wpIn_wide (n := 5)).1 ?_
  obtain ⟨m, hm⟩ : ∃ m, 8 * bs.length = m := ⟨_, rfl⟩
  have hm0 : 0 < m := by omega
  have HM := Lib.hid hm
  have hf1 := HF0.out.trans ((Fr.refl No W0).drew.trans HF2.out)
  rw [hm] at hs
  have hsz : w.heap.size + 2 ≤ w2.heap.size := by
    have h3 := HF2.out.size
    have h4 := HS0.out
    have h5 : W0.drew.heap.size = W0.heap.size := rfl
    omega
  have hg : g < w.heap.size := HFil.out.lt.2
  have hb : b < w.heap.size := HFil.out.lt.1
  have hd : W0.drew.heap.size = w.heap.size + 2 := HS0.out
  rw [hd] at hb1 hb2 hb3 hb4
  have hB3 : B3 < w2.heap.size := cell_block hs.c3
  have hB4 : B4 < w2.heap.size := cell_block hs.c4
  refine wpIn_rangeFunc_ownG rfl (by omega) (gf := 120) (lb := #[.pointer (some ⟨B1, 0, none⟩), .pointer (some ⟨B2, 0, none⟩), .pointer (some ⟨B3, 0, none⟩), .pointer (some ⟨B4, 0, none⟩)]) rfl trivial (enters_of Tryz.func120 (by kernel_rfl) rfl)
    (hs.stopsF 4 (by omega) (fun k => k = w.heap.size + 1 ∨ w2.heap.size ≤ k) hm0 (by omega) hp (fun h => by omega) (fun h => by omega))
    (fun h k => h.trans k) (fun W k o o' hk _ _ _ => Fr.grown (grownBy_putObj' W k o') (fun j e => by cases e; exact .inr hk)) (Below.refl _ _) (fun _ => rfl)
    (HasI w w2 b g bs p w.heap.size m) (HasX w w2 bs w.heap.size m) (hasI_own w w2 b g bs p w.heap.size m hf1.size) (hasX_own w w2 bs w.heap.size m hf1.size)
    ⟨rfl, (HA.out.keep ((Fr.refl No W0).drew) (fun h => h)).keep HF2.out (fun h => h), (HA1.out.keep ((Fr.refl No W0).drew) (fun h => h)).keep HF2.out (fun h => h), hf1, Nat.le_refl _⟩
    (fun x => { tmps := #[.pointer (some ⟨b, 0, none⟩), .slice a len cap, .pointer (some ⟨w.heap.size, 0, none⟩), undef, .pointer (some ⟨w.heap.size + 1, 0, none⟩), .int .i64 ((x.val : Nat) : Int), .slice a len cap, .pointer (some ⟨b, 0, none⟩), .int .i64 (8 * (bs.length : Int)), .pointer (some ⟨b, 0, none⟩), .pointer (some ⟨b, 0, none⟩), .pointer (some ⟨b, 0, none⟩), .int .i64 (p : Int), seqPr B1 B2 B3 B4, .int .i64 ((x.val : Nat) : Int), undef, undef, undef, undef, undef, undef, undef, undef, undef, undef, undef, undef], defers := [] }) ?assign ?body ?done ?stop
  case assign =>
    intro y x W K hK
    gi_wp2
    exact hK
  case body =>
    rintro y pre x W ⟨h1, h2, h3, h4, h5⟩ hlen
    have c2 := h2.cell 0
    have c3 := h3.cell 0
    have f3 := h3.frozen 0
    simp at c2 c3
    have hxm := x.isLt
    have fil := HFil.out.keep h4 (fun h => h) (fun h => h)
    obtain ⟨cc, _, c1, hc1, hc2, _⟩ := fil.cells
    obtain ⟨cq, fq⟩ := fil.bytes (x.val / 8) (by omega)
    have hv := u8_lt (bs.getD (x.val / 8) 0)
    have hE : 2 ^ (x.val % 8) < 2 ^ 8 := Nat.pow_lt_pow_right (by decide) (by omega)
    have hE0 : 0 < 2 ^ (x.val % 8) := Nat.pow_pos (by decide)
    have CBIT := fun w => bit_c x.val w (by omega)
    have hsn : hasB bs ((pre ++ [x]).map (·.val)) = bitB bs x.val := by rw [List.map_append, List.map_cons, List.map_nil, hasB_snoc, h1, Bool.true_and]
    have hand := and_bit (bs.getD (x.val / 8) 0).toNat (x.val % 8)
    have hbit : bitB bs x.val = (bs.getD (x.val / 8) 0).toNat.testBit (x.val % 8) := rfl
    rw [← hbit] at hand
    have h2' := Lib.hid h2
    have h3' := Lib.hid h3
    have h4' := Lib.hid h4
    have h5' := Lib.hid h5
    have HSN := Lib.hid hsn
    have hNN : bs.length ≤ 100000000 := hN1
    clear hbit h1 h2 h3 h4 h5 fil CB CP hsn
    generalize bitB bs x.val = bit at *
    generalize bs.length = N at *
    generalize x.val = q at *
    have hq8 : q / 8 < N := by omega
    generalize (bs.getD (q / 8) 0).toNat = v at *
    generalize 2 ^ (q % 8) = E at *
    have hand2 := u8_and (v : Int) (E : Int) (by omega) (by omega) (by omega) (by omega)
    rw [Int.toNat_natCast, Int.toNat_natCast, hand] at hand2
    have hw8 : IntKind.i64.wrap ((q : Int) / 8) = ((q / 8 : Nat) : Int) := by
      rw [PlainAid.i64_is]
      unfold wrap64
      omega
    generalize q / 8 = q8 at *
    have hq1 : (0 : Int) ≤ (q8 : Int) := by omega
    have hq2 : (q8 : Int) < (N : Int) := by omega
    have CBIT := Lib.hid CBIT
    have FY := Lib.hid (show bit = true → KeepsFrom w2.heap.size W W.drew ∧ Fr (fun k => k = w.heap.size + 1 ∨ w2.heap.size ≤ k) W W.drew ∧ HasI w w2 b g bs p w.heap.size m (pre ++ [x]) W.drew from fun hb =>
      ⟨(KeepsOthers.drew W).from _, ((Fr.refl No W).drew.sub (fun _ _ h => h.elim)), by rw [HSN.out, hb], h2'.out.keep ((Fr.refl No W).drew) (fun h => h), h3'.out.keep ((Fr.refl No W).drew) (fun h => h), h4'.out.drew, h5'.out⟩)
    have FN := Lib.hid (show bit = false → KeepsFrom w2.heap.size W (W.drew.setCell ⟨w.heap.size + 1, 0, none⟩ (.bool false)) ∧ HasX w w2 bs w.heap.size m .ret (pre ++ [x]) (W.drew.setCell ⟨w.heap.size + 1, 0, none⟩ (.bool false)) from fun hb =>
      ⟨((KeepsOthers.drew W).trans (KeepsOthers.setCell _ _ _)).from _, rfl, by rw [HSN.out, hb], (h3'.out.keep ((Fr.refl No W).drew) (fun h => h)).set_ 0 (.bool false), h4'.out.drew.setCell (fun h => absurd h (by simp)) _⟩)
    rcases Bool.eq_false_or_eq_true bit with hb | hb
    · rw [hb] at hand2
      have FIN := FY.out hb
      have FIN := Lib.hid FIN
      simp only [if_true, Bool.false_eq_true, if_false] at hand2
      have hE00 : ((E : Int) == 0) = false := by rw [beq_eq_false_iff_ne]; omega
      clear FY FN h2' h3' h4' h5' HSN hand
      refine wpIn_block ?_
      refine wpIn_seq ?_
      refine wpIn_region_round (S := fun w' => w'.cell? ⟨w.heap.size, 0, none⟩ = some (.pointer (some ⟨b, 0, none⟩)) ∧ w'.cell? ⟨b, 1, none⟩ = some (.slice (some ⟨g, 0, none⟩) N cc) ∧ w'.cell? ⟨g, q8, none⟩ = some (.int .u8 (v : Int))) (by kernel_rfl) (by kernel_rfl) (fun ⟨_, _, h⟩ => h) ⟨c2, c1, cq⟩ (fun hSx => ?_)
      refine take_drop (i := 0) (v := ?v0y) rfl (by kernel_rfl) (by kernel_rfl) (by kernel_rfl) (fun _ _ _ h => h) (Or.inl ⟨by rfl, ?h0y⟩) hSx ?r0y
      case h0y => (intro wS hSw; obtain ⟨s1, s2, s3⟩ := hSw; go_simp; all_goals (with_reducible rfl))
      simp only [Act.put, List.setIfInBounds_toArray, List.set_cons_zero, List.set_cons_succ]
      refine take_drop (i := 1) (v := ?v1y) rfl (by kernel_rfl) (by kernel_rfl) (by kernel_rfl) (fun _ _ _ h => h) (Or.inl ⟨by rfl, ?h1y⟩) hSx ?r1y
      case h1y => (intro wS hSw; obtain ⟨s1, s2, s3⟩ := hSw; go_simp; all_goals (with_reducible rfl))
      simp only [Act.put, List.setIfInBounds_toArray, List.set_cons_zero, List.set_cons_succ]
      refine take_drop (i := 2) (v := ?v2y) rfl (by kernel_rfl) (by kernel_rfl) (by kernel_rfl) (fun _ _ _ h => h) (Or.inl ⟨by rfl, ?h2y⟩) hSx ?r2y
      case h2y => (intro wS hSw; obtain ⟨s1, s2, s3⟩ := hSw; go_simp; all_goals (with_reducible rfl))
      simp only [Act.put, List.setIfInBounds_toArray, List.set_cons_zero, List.set_cons_succ]
      refine take_drop (i := 3) (v := ?v3y) rfl (by kernel_rfl) (by kernel_rfl) (by kernel_rfl) (fun _ _ _ h => h) (Or.inl ⟨by rfl, ?h3y⟩) hSx ?r3y
      case h3y => (intro wS hSw; obtain ⟨s1, s2, s3⟩ := hSw; go_simp; all_goals (with_reducible rfl))
      simp only [Act.put, List.setIfInBounds_toArray, List.set_cons_zero, List.set_cons_succ]
      refine take_drop (i := 4) (v := ?v4y) rfl (by kernel_rfl) (by kernel_rfl) (by kernel_rfl) (fun _ _ _ h => h) (Or.inl ⟨by rfl, ?h4y⟩) hSx ?r4y
      case h4y => (intro wS hSw; obtain ⟨s1, s2, s3⟩ := hSw; go_simp; all_goals (with_reducible rfl))
      simp only [Act.put, List.setIfInBounds_toArray, List.set_cons_zero, List.set_cons_succ]
      refine take_drop (i := 5) (v := ?v5y) rfl (by kernel_rfl) (by kernel_rfl) (by kernel_rfl) (fun _ _ _ h => h) (Or.inl ⟨by rfl, ?h5y⟩) hSx ?r5y
      case h5y => (intro wS hSw; obtain ⟨s1, s2, s3⟩ := hSw; go_simp; all_goals (with_reducible rfl))
      simp only [Act.put, List.setIfInBounds_toArray, List.set_cons_zero, List.set_cons_succ]
      refine take_drop (i := 6) (v := ?v6y) rfl (by kernel_rfl) (by kernel_rfl) (by kernel_rfl) (fun _ _ _ h => h) (Or.inl ⟨by rfl, ?h6y⟩) hSx ?r6y
      case h6y => (intro wS hSw; obtain ⟨s1, s2, s3⟩ := hSw; go_simp; all_goals (with_reducible rfl))
      simp only [Act.put, List.setIfInBounds_toArray, List.set_cons_zero, List.set_cons_succ]
      refine take_drop (i := 7) (v := ?v7y) rfl (by kernel_rfl) (by kernel_rfl) (by kernel_rfl) (fun _ _ _ h => h) (Or.inl ⟨by rfl, ?h7y⟩) hSx ?r7y
      case h7y => (intro wS hSw; obtain ⟨s1, s2, s3⟩ := hSw; go_simp; all_goals (with_reducible rfl))
      simp only [Act.put, List.setIfInBounds_toArray, List.set_cons_zero, List.set_cons_succ]
      refine take_drop (i := 8) (v := ?v8y) rfl (by kernel_rfl) (by kernel_rfl) (by kernel_rfl) (fun _ _ _ h => h) (Or.inl ⟨by rfl, ?h8y⟩) hSx ?r8y
      case h8y => (intro wS hSw; obtain ⟨s1, s2, s3⟩ := hSw; go_simp; all_goals (with_reducible rfl))
      simp only [Act.put, List.setIfInBounds_toArray, List.set_cons_zero, List.set_cons_succ]
      refine wpAnyH_ready (rs := [9]) (by kernel_rfl) (by simp) ?_
      refine do_drop (i := 9) rfl (fun K hK => ?_) AllReadyH.nil
      go_simp
      refine (CBIT.out _).mono ?_
      rintro e wc ⟨rfl, rfl⟩
      refine hK.out _ _ hSx ?_
      clear hK K
      try simp only [Act.put, List.setIfInBounds_toArray, List.set_cons_zero, List.set_cons_succ]
      refine take_drop (i := 10) (v := ?v10y) rfl (by kernel_rfl) (by kernel_rfl) (by kernel_rfl) (fun _ _ _ h => h) (Or.inl ⟨by rfl, ?h10y⟩) hSx ?r10y
      case h10y => (intro wS hSw; obtain ⟨s1, s2, s3⟩ := hSw; go_simp; all_goals (with_reducible rfl))
      simp only [Act.put, List.setIfInBounds_toArray, List.set_cons_zero, List.set_cons_succ]
      refine take_drop (i := 11) (v := ?v11y) rfl (by kernel_rfl) (by kernel_rfl) (by kernel_rfl) (fun _ _ _ h => h) (Or.inl ⟨by rfl, ?h11y⟩) hSx ?r11y
      case h11y => (intro wS hSw; obtain ⟨s1, s2, s3⟩ := hSw; go_simp; all_goals (with_reducible rfl))
      simp only [Act.put, List.setIfInBounds_toArray, List.set_cons_zero, List.set_cons_succ]
      refine wpAnyH_done (by kernel_rfl) ?_ _
      gi_wp2
      exact FIN.out
    · rw [hb] at hand2
      have FIN := FN.out hb
      have FIN := Lib.hid FIN
      simp only [if_true, Bool.false_eq_true, if_false] at hand2
      have hE00 : ((E : Int) == 0) = false := by rw [beq_eq_false_iff_ne]; omega
      clear FY FN h2' h3' h4' h5' HSN hand
      refine wpIn_block ?_
      refine wpIn_seq ?_
      refine wpIn_region_round (S := fun w' => w'.cell? ⟨w.heap.size, 0, none⟩ = some (.pointer (some ⟨b, 0, none⟩)) ∧ w'.cell? ⟨b, 1, none⟩ = some (.slice (some ⟨g, 0, none⟩) N cc) ∧ w'.cell? ⟨g, q8, none⟩ = some (.int .u8 (v : Int))) (by kernel_rfl) (by kernel_rfl) (fun ⟨_, _, h⟩ => h) ⟨c2, c1, cq⟩ (fun hSx => ?_)
      refine take_drop (i := 0) (v := ?v0n) rfl (by kernel_rfl) (by kernel_rfl) (by kernel_rfl) (fun _ _ _ h => h) (Or.inl ⟨by rfl, ?h0n⟩) hSx ?r0n
      case h0n => (intro wS hSw; obtain ⟨s1, s2, s3⟩ := hSw; go_simp; all_goals (with_reducible rfl))
      simp only [Act.put, List.setIfInBounds_toArray, List.set_cons_zero, List.set_cons_succ]
      refine take_drop (i := 1) (v := ?v1n) rfl (by kernel_rfl) (by kernel_rfl) (by kernel_rfl) (fun _ _ _ h => h) (Or.inl ⟨by rfl, ?h1n⟩) hSx ?r1n
      case h1n => (intro wS hSw; obtain ⟨s1, s2, s3⟩ := hSw; go_simp; all_goals (with_reducible rfl))
      simp only [Act.put, List.setIfInBounds_toArray, List.set_cons_zero, List.set_cons_succ]
      refine take_drop (i := 2) (v := ?v2n) rfl (by kernel_rfl) (by kernel_rfl) (by kernel_rfl) (fun _ _ _ h => h) (Or.inl ⟨by rfl, ?h2n⟩) hSx ?r2n
      case h2n => (intro wS hSw; obtain ⟨s1, s2, s3⟩ := hSw; go_simp; all_goals (with_reducible rfl))
      simp only [Act.put, List.setIfInBounds_toArray, List.set_cons_zero, List.set_cons_succ]
      refine take_drop (i := 3) (v := ?v3n) rfl (by kernel_rfl) (by kernel_rfl) (by kernel_rfl) (fun _ _ _ h => h) (Or.inl ⟨by rfl, ?h3n⟩) hSx ?r3n
      case h3n => (intro wS hSw; obtain ⟨s1, s2, s3⟩ := hSw; go_simp; all_goals (with_reducible rfl))
      simp only [Act.put, List.setIfInBounds_toArray, List.set_cons_zero, List.set_cons_succ]
      refine take_drop (i := 4) (v := ?v4n) rfl (by kernel_rfl) (by kernel_rfl) (by kernel_rfl) (fun _ _ _ h => h) (Or.inl ⟨by rfl, ?h4n⟩) hSx ?r4n
      case h4n => (intro wS hSw; obtain ⟨s1, s2, s3⟩ := hSw; go_simp; all_goals (with_reducible rfl))
      simp only [Act.put, List.setIfInBounds_toArray, List.set_cons_zero, List.set_cons_succ]
      refine take_drop (i := 5) (v := ?v5n) rfl (by kernel_rfl) (by kernel_rfl) (by kernel_rfl) (fun _ _ _ h => h) (Or.inl ⟨by rfl, ?h5n⟩) hSx ?r5n
      case h5n => (intro wS hSw; obtain ⟨s1, s2, s3⟩ := hSw; go_simp; all_goals (with_reducible rfl))
      simp only [Act.put, List.setIfInBounds_toArray, List.set_cons_zero, List.set_cons_succ]
      refine take_drop (i := 6) (v := ?v6n) rfl (by kernel_rfl) (by kernel_rfl) (by kernel_rfl) (fun _ _ _ h => h) (Or.inl ⟨by rfl, ?h6n⟩) hSx ?r6n
      case h6n => (intro wS hSw; obtain ⟨s1, s2, s3⟩ := hSw; go_simp; all_goals (with_reducible rfl))
      simp only [Act.put, List.setIfInBounds_toArray, List.set_cons_zero, List.set_cons_succ]
      refine take_drop (i := 7) (v := ?v7n) rfl (by kernel_rfl) (by kernel_rfl) (by kernel_rfl) (fun _ _ _ h => h) (Or.inl ⟨by rfl, ?h7n⟩) hSx ?r7n
      case h7n => (intro wS hSw; obtain ⟨s1, s2, s3⟩ := hSw; go_simp; all_goals (with_reducible rfl))
      simp only [Act.put, List.setIfInBounds_toArray, List.set_cons_zero, List.set_cons_succ]
      refine take_drop (i := 8) (v := ?v8n) rfl (by kernel_rfl) (by kernel_rfl) (by kernel_rfl) (fun _ _ _ h => h) (Or.inl ⟨by rfl, ?h8n⟩) hSx ?r8n
      case h8n => (intro wS hSw; obtain ⟨s1, s2, s3⟩ := hSw; go_simp; all_goals (with_reducible rfl))
      simp only [Act.put, List.setIfInBounds_toArray, List.set_cons_zero, List.set_cons_succ]
      refine wpAnyH_ready (rs := [9]) (by kernel_rfl) (by simp) ?_
      refine do_drop (i := 9) rfl (fun K hK => ?_) AllReadyH.nil
      go_simp
      refine (CBIT.out _).mono ?_
      rintro e wc ⟨rfl, rfl⟩
      refine hK.out _ _ hSx ?_
      clear hK K
      try simp only [Act.put, List.setIfInBounds_toArray, List.set_cons_zero, List.set_cons_succ]
      refine take_drop (i := 10) (v := ?v10n) rfl (by kernel_rfl) (by kernel_rfl) (by kernel_rfl) (fun _ _ _ h => h) (Or.inl ⟨by rfl, ?h10n⟩) hSx ?r10n
      case h10n => (intro wS hSw; obtain ⟨s1, s2, s3⟩ := hSw; go_simp; all_goals (with_reducible rfl))
      simp only [Act.put, List.setIfInBounds_toArray, List.set_cons_zero, List.set_cons_succ]
      refine take_drop (i := 11) (v := ?v11n) rfl (by kernel_rfl) (by kernel_rfl) (by kernel_rfl) (fun _ _ _ h => h) (Or.inl ⟨by rfl, ?h11n⟩) hSx ?r11n
      case h11n => (intro wS hSw; obtain ⟨s1, s2, s3⟩ := hSw; go_simp; all_goals (with_reducible rfl))
      simp only [Act.put, List.setIfInBounds_toArray, List.set_cons_zero, List.set_cons_succ]
      refine wpAnyH_done (by kernel_rfl) ?_ _
      gi_wp2
      exact FIN.out
  case done =>
    rintro D ys W hD rfl ⟨h1, h2, h3, h4, h5⟩ hK
    rw [placesF_val] at h1
    have c3 := h3.cell 0
    have f3 := h3.frozen 0
    simp at c3
    have hK' := (KeepsOthers.setCell W ⟨w.heap.size + 1, 0, none⟩ (.bool true)).same D _ hK rfl
    have hg := grownBy_putObj' (W.setCell ⟨w.heap.size + 1, 0, none⟩ (.bool true)) D (.deferred none)
    have hr : Turns w2.heap.size (W.setCell ⟨w.heap.size + 1, 0, none⟩ (.bool true)) (some D) := fun r e => by cases e; exact ⟨hD, _, hK', rfl⟩
    have A5 := own_at (h3.set_ 0 (.bool true)) hg hr
    have c5 := A5.cell 0
    simp at c5
    have FIN := Lib.hid (own_frS hf1.size (h4.setCell (p := ⟨w.heap.size + 1, 0, none⟩) (fun h => absurd h (by simp)) (.bool true)) hg hr)
    clear A5 hg hr h3
    gi_wp2
    go_wp2_with fail
    refine ⟨by simp, .inl ⟨_, _, rfl, run_takeDeferred hK', ?_⟩⟩
    rw [HM.out, h1]
    refine ⟨.bool true, ?_, rfl, FIN.out⟩
    simp [results, Tryz.f55, go_sem, c5]
  case stop =>
    rintro D c pre W hD hpre ⟨rfl, h2, h3, h4⟩ hK
    have h2 := hasB_pre bs _ _ (hpre.map (·.val)) h2
    rw [placesF_val] at h2
    have hg := grownBy_putObj' W D (.deferred none)
    have hr : Turns w2.heap.size W (some D) := fun r e => by cases e; exact ⟨hD, _, hK, rfl⟩
    have A5 := own_at h3 hg hr
    have c5 := A5.cell 0
    simp at c5
    have FIN := Lib.hid (own_frS hf1.size h4 hg hr)
    clear A5 hg hr h3
    gi_wp2
    refine ⟨by simp, .inl ⟨_, _, rfl, run_takeDeferred hK, ?_⟩⟩
    rw [HM.out, h2]
    refine ⟨.bool false, ?_, rfl, FIN.out⟩
    simp [results, Tryz.f55, go_sem, c5]
end Go.Proofs.YtlobnbbndkhcbaaGreatDoor
