/-
  Layer 11: MemNewest.
-/
import Derived.Test.YtggjkpgkmohmdaaMeT
import Derived.Test.YtggjkpgkmohmdaaMeU
import Derived.Test.YtggjkpgkmohmdaaOpenS
import Derived.Test.YtggjkpgkmohmdaaMemB
namespace Go.Proofs.Ytggjkpgkmohmdaa
set_option linter.unusedVariables false
open Go.RowKit

theorem ops_one (w : World) (t : TypeId) (fr : Nat × Nat) (x : Op10) : Ops (w.alloc (.cells #[.int .i64 x.k, .string x.key, .string x.val] t fr)) (One w.heap.size) (some ⟨w.heap.size, 0, none⟩) [x] := fun _ => by
  refine ⟨_, 0, rfl, rfl, fun i hi => ?_⟩
  have e : i = 0 := by simpa using hi
  subst e
  refine ⟨?_, ?_, ?_⟩
  · rw [cell_of_row _ _ _ _ t fr (heap_alloc_new w _)]; rfl
  · rw [cell_of_row _ _ _ _ t fr (heap_alloc_new w _)]; rfl
  · rw [cell_of_row _ _ _ _ t fr (heap_alloc_new w _)]; rfl
theorem apply_one {D : World → Nat → (Nat → Prop) → Mt → Prop} (H : MemOK D) (w : World) (t : Nat) (F : Nat → Prop) (m m' : Mt) (q : Int) (x : Op10) (hd : D w t F m) (hl : m.es.length ≤ 100000) (hq : (Lit.int .i64 q).wf = true) (hx : OpWf x) (h0 : applyE m q [x] = 0) (hm : applyM m q [x] = m') (ty : TypeId) (fr : Nat × Nat) :
    Calls Try.prog 19 #[.pointer (some ⟨t, 0, none⟩), .agg #[.int .i64 q, .slice (some ⟨w.heap.size, 0, none⟩) 1 1], .slice none 0 0] (w.alloc (.cells #[.int .i64 x.k, .string x.key, .string x.val] ty fr))
      fun e w' => e = .returned (.int .i64 0) ∧ ∃ F', D w' t F' m' ∧ (∀ k, F' k → F k ∨ w.heap.size ≤ k) ∧ Fr F w w' := by
  have f : Fr F w (w.alloc (.cells #[.int .i64 x.k, .string x.key, .string x.val] ty fr)) := (Fr.refl F w).alloc _
  have f0 : Fr No w (w.alloc (.cells #[.int .i64 x.k, .string x.key, .string x.val] ty fr)) := (Fr.refl No w).alloc _
  have q := H.apply (w.alloc (.cells #[.int .i64 x.k, .string x.key, .string x.val] ty fr)) t F m q (some ⟨w.heap.size, 0, none⟩) 1 1 [x] (One w.heap.size) none 0 0 []
    (H.keep hd f0 fun _ _ h => h) hl hq rfl (by omega) (by unfold maxLen; omega) (ops_one w ty fr x)
    (fun k hk hF => by have := H.low hd k hF; unfold One at hk; omega)
    (fun y hy => by rw [List.mem_singleton] at hy; subst hy; exact hx) rfl (by omega) (by unfold maxLen; omega) (fun h => absurd h (by simp)) (fun b o h _ => by cases h)
  rw [h0, hm] at q
  refine q.mono ?_
  rintro e w' ⟨rfl, F', h1, h2, h3⟩
  exact ⟨rfl, F', h1, fun k hk => (h2 k hk).elim .inl fun h => .inr (Nat.le_trans f.size h), f.trans h3⟩
theorem opN_eq (ks vs : Nat → ByteArray) (i : Nat) : opN ks vs i = Op10.mk (if (vs i).size = 0 then 2 else 1) (ks i) (vs i) := rfl
theorem wantN_succ (ks : Nat → ByteArray) (k : ByteArray) (at_ : Int) (n : Nat) : wantN ks k at_ (n + 1) = if ks n = k ∧ 2 * (n : Int) + 1 ≤ at_ then (n : Int) else wantN ks k at_ n := rfl
theorem top_none {m : Mt} {u : ByteArray} {at_ : Int} (h : topE m.es u at_ = none) : entAt m (getE m.es u at_) = ent0 ∧ decide (0 ≤ getE m.es u at_) = false := by
  unfold topE at h
  split at h
  · rename_i h0
    unfold entAt
    rw [if_pos h0]
    exact ⟨rfl, decide_eq_false (by omega)⟩
  · cases h
theorem top_some {m : Mt} {u : ByteArray} {at_ : Int} {x : Ent} (h : topE m.es u at_ = some x) : entAt m (getE m.es u at_) = x ∧ decide (0 ≤ getE m.es u at_) = true := by
  unfold topE at h
  split at h
  · cases h
  · rename_i h0
    unfold entAt
    rw [if_neg h0]
    exact ⟨by injection h, decide_eq_true (by omega)⟩
def atS (l : List ByteArray) (i : Nat) : ByteArray := l.getD i ByteArray.empty
theorem Strs.at_ {w : World} {a : Option Addr} {l : List ByteArray} (h : Strs w a l) (hl : 0 < l.length) : ∃ b o, a = some ⟨b, o, none⟩ ∧ ∀ i, i < l.length → w.cell? ⟨b, o + i, none⟩ = some (.string (atS l i)) ∧ (atS l i).size ≤ maxLen := by
  obtain ⟨b, o, ha, hx⟩ := h hl
  refine ⟨b, o, ha, fun i hi => ?_⟩
  have e : l[i]? = some (atS l i) := by
    unfold atS
    rw [List.getD_eq_getElem?_getD, List.getElem?_eq_getElem hi]
    rfl
  exact hx i _ e
set_option maxRecDepth 20000 in
set_option maxHeartbeats 6400000 in
theorem mnewest_c {D : World → Nat → (Nat → Prop) → Mt → Prop} (H : MemOK D) (w : World) (a : Option Addr) (n cap : Nat) (K : List ByteArray) (va : Option Addr) (vn vc : Nat) (V : List ByteArray)
    (hn : K.length = n) (hm : n ≤ maxLen) (hk : Strs w a K) (hvn : V.length = vn) (hvm : vn ≤ maxLen) (hv : Strs w va V) :
    Calls Try.prog 5 #[.slice a n cap, .slice va vn vc] w (Ask (.bool true) w) := by
  have HH := Lib.hid H
  have HK := Lib.hid hk
  have HV := Lib.hid hv
  have HKN := Lib.hid hn
  have HVN := Lib.hid hvn
  have HC0 := Lib.hid (H.new w)
  have AW := Lib.hid (fun w' => awake11_c H w')
  unfold maxLen at hm hvm
  clear H hk hv hn hvn
  go_enter Try.func5, Try.ntmps5
  go_wp2_with fail
  refine (show Calls _ _ _ _ _ from HC0.out).mono ?_
  rintro e w1 ⟨t, F, rfl, hD, hF, hf1⟩
  have HF1 := Lib.hid hf1
  have START : Hid (TabN (atS K) (atS V) 0 ∧ ∃ F, D w1 t F (tabN (atS K) (atS V) 0) ∧ (∀ k, F k → w.heap.size ≤ k)) := Lib.hid ⟨tabN_zero _ _, F, hD, hF⟩
  clear hD hF hf1 HC0
  by_cases h1 : (40 : Int) < (n : Int)
  · as_aux_lemma =>
    go_wp2_with fail
    refine (show Calls _ _ _ _ _ from AW.out _).mono ?_
    rintro e w2 ⟨rfl, hf2⟩
    have HF2 := Lib.hid (HF1.out.trans hf2)
    clear hf2
    go_wp2_with fail
    go_ret
    exact ⟨rfl, HF2.out⟩
  · by_cases h2 : (vn : Int) < (n : Int)
    · as_aux_lemma =>
      go_wp2_with fail
      refine (show Calls _ _ _ _ _ from AW.out _).mono ?_
      rintro e w2 ⟨rfl, hf2⟩
      have HF2 := Lib.hid (HF1.out.trans hf2)
      clear hf2
      go_wp2_with fail
      go_ret
      exact ⟨rfl, HF2.out⟩
    · have HVL := Lib.hid (show n ≤ vn ∧ n ≤ 40 by omega)
      have d40 : decide ((40 : Int) < (n : Int)) = false := decide_eq_false h1
      have dvn : decide (vn < n) = false := decide_eq_false (by omega)
      clear h1 h2
      go_wp2_with fail
      go_loopw [38] (fun i wr => ∃ j : Nat, i = .int .i64 (j : Int) ∧ j ≤ n ∧ (TabN (atS K) (atS V) j ∧ ∃ F, D wr t F (tabN (atS K) (atS V) j) ∧ (∀ k, F k → w.heap.size ≤ k)) ∧ Fr No w wr) (fun i _ => n - (intOf i).toNat)
      case atStart => exact ⟨0, rfl, Nat.zero_le _, START.out, HF1.out⟩
      case round =>
        obtain ⟨j, rfl, hj, ⟨hT, F, hD, hF⟩, hfr⟩ := hrel
        have HFR := Lib.hid hfr
        by_cases hlt : j < n
        · as_aux_lemma =>
          have hj40 : j < 40 := by have := HVL.out; omega
          obtain ⟨b, o, rfl, hkc⟩ := HK.out.at_ (by rw [HKN.out]; omega)
          obtain ⟨b2, o2, rfl, hvc⟩ := HV.out.at_ (by rw [HVN.out]; have := HVL.out; omega)
          have c0 := hfr.cell (hkc j (by rw [HKN.out]; omega)).1 (fun h => h)
          have c1 := hfr.cell (hvc j (by rw [HVN.out]; have := HVL.out; omega)).1 (fun h => h)
          have hks := (hkc j (by rw [HKN.out]; omega)).2
          have hjv : (j : Int) < (vn : Int) := by have := HVL.out; omega
          obtain ⟨m, hmm⟩ : ∃ m, tabN (atS K) (atS V) j = m := ⟨_, rfl⟩
          obtain ⟨m', hmm'⟩ : ∃ m', tabN (atS K) (atS V) (j + 1) = m' := ⟨_, rfl⟩
          have hok := hT.ok (by omega)
          have HSTEP := Lib.hid (fun h1 h2 h3 => hT.step (by omega) h1 h2 h3)
          have hlen := hT.len
          have hap : applyM (tabN (atS K) (atS V) j) (2 * (j : Int) + 1) [opN (atS K) (atS V) j] = tabN (atS K) (atS V) (j + 1) := rfl
          have HOP := Lib.hid (opN_eq (atS K) (atS V) j)
          obtain ⟨op, hop⟩ : ∃ op, opN (atS K) (atS V) j = op := ⟨_, rfl⟩
          rw [hmm] at hok hap hD hlen
          rw [hmm'] at hap
          rw [hop] at hok hap HOP
          have HM' := Lib.hid hmm'
          obtain ⟨k, hkk⟩ : ∃ k, atS K j = k := ⟨_, rfl⟩
          obtain ⟨v, hvv⟩ : ∃ v, atS V j = v := ⟨_, rfl⟩
          rw [hkk] at c0 hks hok HSTEP HOP
          rw [hvv] at c1 hok HSTEP HOP
          have HD := Lib.hid hD
          have HFF := Lib.hid hF
          clear hkc hvc hmm hmm' hop hkk hvv hT hD hF hfr
          by_cases hk1 : (k.size : Int) < 1
          · go_wp2_with fail
            refine (show Calls _ _ _ _ _ from AW.out _).mono ?_
            rintro e w2 ⟨rfl, hf2⟩
            have HF2 := Lib.hid (HFR.out.trans hf2)
            clear hf2
            go_wp2_with fail
            go_ret
            exact ⟨rfl, HF2.out⟩
          · by_cases hk2 : (64 : Int) < (k.size : Int)
            · go_wp2_with fail
              refine (show Calls _ _ _ _ _ from AW.out _).mono ?_
              rintro e w2 ⟨rfl, hf2⟩
              have HF2 := Lib.hid (HFR.out.trans hf2)
              clear hf2
              go_wp2_with fail
              go_ret
              exact ⟨rfl, HF2.out⟩
            · by_cases hv5 : (500 : Int) < (v.size : Int)
              · go_wp2_with fail
                refine (show Calls _ _ _ _ _ from AW.out _).mono ?_
                rintro e w2 ⟨rfl, hf2⟩
                have HF2 := Lib.hid (HFR.out.trans hf2)
                clear hf2
                go_wp2_with fail
                go_ret
                exact ⟨rfl, HF2.out⟩
              · have h0 := hok (by omega) (by omega) (by omega)
                have HT1 := Lib.hid (HSTEP.out (by omega) (by omega) (by omega))
                have ca1 := ((Fr.refl No wr).alloc (.cells #[.int .i64 1, .string k, .string v] 53)).cell c1 (fun h => h)
                by_cases hve : v.size = 0
                · have e1 : v.toList.isEmpty = true := by rw [empty_toList, hve]; rfl
                  have e2 : (v.toList == (⟨#[]⟩ : ByteArray).toList) = true := by rw [size_zero hve]; exact beq_self_eq_true _
                  have e3 : (⟨#[]⟩ : ByteArray).toList = [] := by rw [ByteArray.toList_eq]
                  have e4 : v.toList = [] := by rw [ByteArray.toList_eq, size_zero hve]; rfl
                  have hopk : op = ⟨2, k, v⟩ := by rw [HOP.out, if_pos hve]
                  rw [hopk] at h0 hap
                  have HAPP := Lib.hid (fun w' (f : Fr No wr w') => apply_one HH.out w' t F m m' (2 * (j : Int) + 1) ⟨2, k, v⟩ (HH.out.keep HD.out f (fun _ _ h => h)) (by rw [hlen]; omega) (WalkArith.wf_i64 (by omega)) ⟨by show (Lit.int .i64 2).wf = true; decide, by show k.size ≤ maxLen; exact hks, by show v.size ≤ maxLen; unfold maxLen; omega⟩ h0 hap 53 (0, 0))
                  have HAP1 : Hid (Calls Try.prog 19 #[.pointer (some ⟨t, 0, none⟩), .agg #[.int .i64 (2 * (j : Int) + 1), .slice (some ⟨wr.heap.size + 1, 0, none⟩) 1 1], .slice none 0 0] ((wr.alloc (.cells #[.int .i64 2, .string k, .string v] 53)).alloc (.cells #[.int .i64 2, .string k, .string v] 53))
                      fun e w' => e = .returned (.int .i64 0) ∧ ∃ F', D w' t F' m' ∧ (∀ k, F' k → F k ∨ wr.heap.size ≤ k) ∧ Fr F wr w') := Lib.hid (by
                    have f := (Fr.refl No wr).alloc (.cells #[.int .i64 2, .string k, .string v] 53)
                    have h := HAPP.out _ f
                    have hs : (wr.alloc (.cells #[.int .i64 2, .string k, .string v] 53)).heap.size = wr.heap.size + 1 := by simp
                    rw [hs] at h
                    refine h.mono ?_
                    rintro e w' ⟨he, F', g1, g2, g3⟩
                    exact ⟨he, F', g1, fun k hk => (g2 k hk).imp id fun h => by omega, (f.sub fun k _ h => absurd h (fun h => h)).trans g3⟩)
                  clear h0 hap hlen hopk hve
                  go_wp2_with fail
                  refine (show Calls _ _ _ _ _ from HAP1.out).mono ?_
                  rintro e w2 ⟨rfl, F', hD', hF', hf2⟩
                  have HFW : Hid (Fr No w w2) := Lib.hid (HFR.out.then_ hf2 fun k hk h => by have := HFF.out k h; omega)
                  have HDN : Hid (TabN (atS K) (atS V) (j + 1) ∧ ∃ F, D w2 t F (tabN (atS K) (atS V) (j + 1)) ∧ (∀ k, F k → w.heap.size ≤ k)) := Lib.hid ⟨HT1.out, F', by rw [HM'.out]; exact hD', fun k hk => (hF' k hk).elim (HFF.out k) fun h => Nat.le_trans HFR.out.size h⟩
                  clear hD' hF' hf2
                  go_wp2_with fail
                  go_roundw
                  case rel => exact ⟨j + 1, by simp, by omega, HDN.out, HFW.out⟩
                  case measure => simp [intOf]; omega
                · have e1 : v.toList.isEmpty = false := by rw [empty_toList]; simpa using hve
                  have hopk : op = ⟨1, k, v⟩ := by rw [HOP.out, if_neg hve]
                  rw [hopk] at h0 hap
                  have HAPP := Lib.hid (fun w' (f : Fr No wr w') => apply_one HH.out w' t F m m' (2 * (j : Int) + 1) ⟨1, k, v⟩ (HH.out.keep HD.out f (fun _ _ h => h)) (by rw [hlen]; omega) (WalkArith.wf_i64 (by omega)) ⟨by show (Lit.int .i64 1).wf = true; decide, by show k.size ≤ maxLen; exact hks, by show v.size ≤ maxLen; unfold maxLen; omega⟩ h0 hap 53 (0, 0))
                  have HAP1 : Hid (Calls Try.prog 19 #[.pointer (some ⟨t, 0, none⟩), .agg #[.int .i64 (2 * (j : Int) + 1), .slice (some ⟨wr.heap.size + 1, 0, none⟩) 1 1], .slice none 0 0] ((wr.alloc (.cells #[.int .i64 1, .string k, .string v] 53)).alloc (.cells #[.int .i64 1, .string k, .string v] 53))
                      fun e w' => e = .returned (.int .i64 0) ∧ ∃ F', D w' t F' m' ∧ (∀ k, F' k → F k ∨ wr.heap.size ≤ k) ∧ Fr F wr w') := Lib.hid (by
                    have f := (Fr.refl No wr).alloc (.cells #[.int .i64 1, .string k, .string v] 53)
                    have h := HAPP.out _ f
                    have hs : (wr.alloc (.cells #[.int .i64 1, .string k, .string v] 53)).heap.size = wr.heap.size + 1 := by simp
                    rw [hs] at h
                    refine h.mono ?_
                    rintro e w' ⟨he, F', g1, g2, g3⟩
                    exact ⟨he, F', g1, fun k hk => (g2 k hk).imp id fun h => by omega, (f.sub fun k _ h => absurd h (fun h => h)).trans g3⟩)
                  clear h0 hap hlen hopk hve
                  go_wp2_with fail
                  refine (show Calls _ _ _ _ _ from HAP1.out).mono ?_
                  rintro e w2 ⟨rfl, F', hD', hF', hf2⟩
                  have HFW : Hid (Fr No w w2) := Lib.hid (HFR.out.then_ hf2 fun k hk h => by have := HFF.out k h; omega)
                  have HDN : Hid (TabN (atS K) (atS V) (j + 1) ∧ ∃ F, D w2 t F (tabN (atS K) (atS V) (j + 1)) ∧ (∀ k, F k → w.heap.size ≤ k)) := Lib.hid ⟨HT1.out, F', by rw [HM'.out]; exact hD', fun k hk => (hF' k hk).elim (HFF.out k) fun h => Nat.le_trans HFR.out.size h⟩
                  clear hD' hF' hf2
                  go_wp2_with fail
                  go_roundw
                  case rel => exact ⟨j + 1, by simp, by omega, HDN.out, HFW.out⟩
                  case measure => simp [intOf]; omega
        · as_aux_lemma =>
          have hjn : j = n := by omega
          subst hjn
          have HSEES := Lib.hid (fun k at_ => hT.top k at_)
          have HSRT := Lib.hid hT.srt
          have HGC := Lib.hid (fun w' (f : Fr No wr w') (u : ByteArray) (hu : u.size ≤ maxLen) (at_ : Int) (hat : (Lit.int .i64 at_).wf = true) => HH.out.get w' t F (tabN (atS K) (atS V) j) u at_ (HH.out.keep hD f (fun _ _ h => h)) (by rw [hT.len]; have := HVL.out; omega) hu hat)
          have HKr := Lib.hid (HK.out.keep hfr)
          have HVr := Lib.hid (HV.out.keep hfr)
          clear hT hD hF hfr
          obtain ⟨wr0, hwr0⟩ : ∃ w0, wr = w0 := ⟨_, rfl⟩
          have HJ40 := Lib.hid (show j ≤ 40 from HVL.out.2)
          have HJV := Lib.hid (show j ≤ vn from HVL.out.1)
          have hj40 := HJ40.out
          go_wp2_with fail
          go_loopw [86] (fun i wq => ∃ p : Nat, i = .int .i64 (p : Int) ∧ p ≤ 2 * j + 2 ∧ Fr No wr0 wq) (fun i _ => 2 * j + 2 - (intOf i).toNat)
          case atStart => exact ⟨0, rfl, Nat.zero_le _, Fr.refl _ _⟩
          case round =>
            obtain ⟨p, rfl, hp, hfr⟩ := hrel
            subst hwr0
            have HFR2 := Lib.hid hfr
            by_cases hltp : p < 2 * j + 2
            · as_aux_lemma =>
              have dp : decide ((p : Int) < 2 * (j : Int) + 2) = true := by rw [decide_eq_true_eq]; omega
              have HP := Lib.hid hltp
              clear hltp hfr
              obtain ⟨wr1, hwr1⟩ : ∃ w0, wr = w0 := ⟨_, rfl⟩
              go_wp2_with fail
              go_loopw [91] (fun i wq => ∃ q : Nat, i = .int .i64 (q : Int) ∧ q ≤ j ∧ Fr No wr1 wq) (fun i _ => j - (intOf i).toNat)
              case atStart => exact ⟨0, rfl, Nat.zero_le _, Fr.refl _ _⟩
              case round =>
                obtain ⟨q, rfl, hq, hfr⟩ := hrel
                subst hwr1
                have HFR3 := Lib.hid hfr
                by_cases hltq : q < j
                · as_aux_lemma =>
                  obtain ⟨b, o, rfl, hkc⟩ := HKr.out.at_ (by rw [HKN.out]; omega)
                  have HQ := Lib.hid hltq
                  have hfq := HFR2.out.trans hfr
                  have c0 := hfq.cell (hkc q (by rw [HKN.out]; exact hltq)).1 (fun h => h)
                  have HKS := Lib.hid (hkc q (by rw [HKN.out]; exact hltq)).2
                  have HKC := Lib.hid hkc
                  have HFQ := Lib.hid hfq
                  obtain ⟨k, hkk⟩ : ∃ k, atS K q = k := ⟨_, rfl⟩
                  rw [hkk] at c0 HKS
                  have HPI := Lib.hid (show (Lit.int .i64 (p : Int)).wf = true from WalkArith.wf_i64 (by have := HP.out; omega))
                  obtain ⟨wr2, hwr2⟩ : ∃ w0, wr = w0 := ⟨_, rfl⟩
                  rw [hwr2] at c0
                  clear hfr hkk hkc hfq
                  go_wp2_with fail
                  go_loopw [12, 97] (fun vw i wq => ∃ r : Nat, vw = .int .i64 (wantN (atS K) k (p : Int) r) ∧ i = .int .i64 (r : Int) ∧ r ≤ j ∧ Fr No wr2 wq) (fun _ i _ => j - (intOf i).toNat)
                  case atStart => exact ⟨0, rfl, rfl, Nat.zero_le _, Fr.refl _ _⟩
                  case round =>
                    obtain ⟨r, rfl, rfl, hr, hfr⟩ := hrel
                    subst hwr2
                    have HFR4 := Lib.hid hfr
                    by_cases hltr : r < j
                    · have c4 := (HFQ.out.trans hfr).cell (HKC.out r (by rw [HKN.out]; exact hltr)).1 (fun h => h)
                      have HS := Lib.hid (wantN_succ (atS K) k (p : Int) r)
                      obtain ⟨k4, hk4⟩ : ∃ k4, atS K r = k4 := ⟨_, rfl⟩
                      rw [hk4] at c4 HS
                      clear hfr hk4
                      by_cases he : k4 = k
                      · have d4 : (k4.toList == k.toList) = true := by rw [he]; simp
                        by_cases hle : 2 * (r : Int) + 1 ≤ (p : Int)
                        · have d5 : decide (2 * (r : Int) + 1 ≤ (p : Int)) = true := decide_eq_true hle
                          have HE : Hid (wantN (atS K) k (p : Int) (r + 1) = (r : Int)) := Lib.hid (by rw [HS.out, if_pos ⟨he, hle⟩])
                          clear he hle c0
                          go_wp2_with fail
                          go_roundw
                          case rel => exact ⟨r + 1, by rw [HE.out], by simp, by omega, HFR4.out⟩
                          case measure => simp [intOf]; omega
                        · have d5 : decide (2 * (r : Int) + 1 ≤ (p : Int)) = false := decide_eq_false hle
                          have HE : Hid (wantN (atS K) k (p : Int) (r + 1) = wantN (atS K) k (p : Int) r) := Lib.hid (by rw [HS.out, if_neg (fun h => hle h.2)])
                          clear he hle c0
                          go_wp2_with fail
                          go_roundw
                          case rel => exact ⟨r + 1, by rw [HE.out], by simp, by omega, HFR4.out⟩
                          case measure => simp [intOf]; omega
                      · have d4 : (k4.toList == k.toList) = false := (toList_eq_iff _ _).trans (decide_eq_false he)
                        have HE : Hid (wantN (atS K) k (p : Int) (r + 1) = wantN (atS K) k (p : Int) r) := Lib.hid (by rw [HS.out, if_neg (fun h => he h.1)])
                        clear he c0
                        go_wp2_with fail
                        go_roundw
                        case rel => exact ⟨r + 1, by rw [HE.out], by simp, by omega, HFR4.out⟩
                        case measure => simp [intOf]; omega
                    · have hrj : r = j := by omega
                      subst hrj
                      have HG := Lib.hid (HGC.out wr (HFQ.out.trans hfr) k HKS.out (p : Int) HPI.out)
                      have htop := HSEES.out k (p : Int)
                      rcases wantN_spec (atS K) k (p : Int) r with ⟨w1', _⟩ | ⟨g, g1, g2, g3, g4, _⟩
                      · rw [w1', if_pos (by omega)] at htop
                        obtain ⟨x1, x2⟩ := top_none htop
                        rw [x1, x2] at HG
                        rw [w1']
                        clear hfr w1' htop x1 x2 c0
                        go_wp2_with fail
                        refine (show Calls _ _ _ _ _ from HG.out).mono ?_
                        rintro e w5 ⟨rfl, hf5⟩
                        have HF5 := Lib.hid hf5
                        clear hf5
                        unfold entV
                        go_wp2_with fail
                        go_region
                        go_wp2_with fail
                        have hq2 := HQ.out
                        go_roundw
                        case rel => exact ⟨q + 1, by simp, by omega, HFR3.out.trans (HFR4.out.trans (HF5.out.alloc _).drew)⟩
                        case measure => simp [intOf]; omega
                      · rw [g2, if_neg (by omega), Int.toNat_natCast] at htop
                        obtain ⟨x1, x2⟩ := top_some htop
                        rw [x1, x2] at HG
                        rw [g2]
                        obtain ⟨b2, o2, rfl, hvc⟩ := HVr.out.at_ (by rw [HVN.out]; have := HJV.out; omega)
                        have cv := (HFQ.out.trans hfr).cell (hvc g (by rw [HVN.out]; have := HJV.out; omega)).1 (fun h => h)
                        have hgv : (g : Int) < (vn : Int) := by have := HJV.out; omega
                        have hkg : opEnt (2 * (g : Int) + 1) (opN (atS K) (atS V) g) = ⟨k, 2 * (g : Int) + 1, if (atS V g).size = 0 then 2 else 1, atS V g⟩ := by
                          show Ent.mk (atS K g) _ _ _ = _
                          rw [g3]
                          rfl
                        rw [hkg] at HG
                        obtain ⟨v, hv⟩ : ∃ v, atS V g = v := ⟨_, rfl⟩
                        rw [hv] at HG cv
                        have hg40 : (g : Int) < 40 := by omega
                        clear hfr g1 g2 g3 g4 htop x1 x2 c0 hvc hkg hv
                        have e0 : (v.toList == v.toList) = true := beq_self_eq_true _
                        have dq : (2 * (g : Int) + 1 == 2 * (g : Int) + 1) = true := beq_self_eq_true _
                        have dq2 : (2 * (g : Int) + 1 != 2 * (g : Int) + 1) = false := by simp
                        have dg : decide ((0 : Int) ≤ (g : Int)) = true := by rw [decide_eq_true_eq]; omega
                        by_cases hve : v.size = 0
                        · have e1 : v.toList.isEmpty = true := by rw [empty_toList, hve]; rfl
                          rw [if_pos hve] at HG
                          clear hve
                          go_wp2_with fail
                          refine (show Calls _ _ _ _ _ from HG.out).mono ?_
                          rintro e w5 ⟨rfl, hf5⟩
                          have HF5 := Lib.hid hf5
                          have cv := hf5.cell cv (fun h => h)
                          have cva := ((Fr.refl No w5).alloc (.cells #[.string k, .int .i64 (2 * (g : Int) + 1), .int .i64 2, .string v] 39)).cell cv (fun h => h)
                          clear hf5
                          unfold entV
                          go_wp2_with fail
                          go_region
                          go_wp2_with fail
                          have hq2 := HQ.out
                          go_roundw
                          case rel => exact ⟨q + 1, by simp, by omega, HFR3.out.trans (HFR4.out.trans (HF5.out.alloc _).drew)⟩
                          case measure => simp [intOf]; omega
                        · have e1 : v.toList.isEmpty = false := by rw [empty_toList]; simpa using hve
                          rw [if_neg hve] at HG
                          clear hve
                          go_wp2_with fail
                          refine (show Calls _ _ _ _ _ from HG.out).mono ?_
                          rintro e w5 ⟨rfl, hf5⟩
                          have HF5 := Lib.hid hf5
                          have cv := hf5.cell cv (fun h => h)
                          have cva := ((Fr.refl No w5).alloc (.cells #[.string k, .int .i64 (2 * (g : Int) + 1), .int .i64 1, .string v] 39)).cell cv (fun h => h)
                          clear hf5
                          unfold entV
                          go_wp2_with fail
                          go_region
                          go_wp2_with fail
                          have hq2 := HQ.out
                          go_roundw
                          case rel => exact ⟨q + 1, by simp, by omega, HFR3.out.trans (HFR4.out.trans (HF5.out.alloc _).drew)⟩
                          case measure => simp [intOf]; omega
                · have hp2 := HP.out
                  clear hfr
                  go_wp2_with fail
                  go_roundw
                  case rel => exact ⟨p + 1, by simp, by omega, HFR2.out.trans HFR3.out⟩
                  case measure => simp [intOf]; omega
            · clear hfr
              go_wp2_with fail
              refine (show Calls _ _ _ _ _ from AW.out _).mono ?_
              rintro e w2 ⟨rfl, hf2⟩
              have HF2 := Lib.hid (HFR.out.trans (HFR2.out.trans hf2))
              clear hf2
              go_wp2_with fail
              go_ret
              exact ⟨rfl, HF2.out⟩
theorem memNewest_walk {D : World → Nat → (Nat → Prop) → Mt → Prop} (H : MemOK D) (w : World) (a : Option Addr) (cap : Nat) (K : List ByteArray) (hc : K.length ≤ cap) (hm : cap ≤ maxLen) (hk : Strs w a K) (va : Option Addr) (vc : Nat) (V : List ByteArray) (hvc : V.length ≤ vc) (hvm : vc ≤ maxLen) (hv : Strs w va V) :
    Calls Try.prog 5 #[.slice a K.length cap, .slice va V.length vc] w fun e w' => e = .returned (.bool true) ∧ Below w.heap.size w w' :=
  (mnewest_c H w a _ cap K va _ vc V rfl (Nat.le_trans hc hm) hk rfl (Nat.le_trans hvc hvm) hv).mono fun _ _ h => ⟨h.1, h.2.below (Nat.le_refl _) (fun _ h => absurd h (fun h => h))⟩
end Go.Proofs.Ytggjkpgkmohmdaa
