/-
  The walk of WireBack.
-/
import Derived.Test.YtpjfdhgkclnagaaWireN
import Derived.Deep.RegionHeld3
namespace Go.Proofs.Ytpjfdhgkclnagaa
set_option linter.unusedVariables false
open Go.RowKit

def BackInv (w : World) (B : Nat) (l : List It) (k : Nat) (wr : World) (v : Value) : Prop :=
  ∃ S T, WInv w wr B S (encIs (l.take k)) (badIs (l.take k)) ∧ Beside w wr B S T v (encIs (l.take k))
theorem Rr.drew {w : World} {B : Nat} {S : Nat → Prop} {st : St} (h : Rr w B S st) : Rr w.drew B S st := h
theorem BackInv.fr {w wr : World} {B : Nat} {l : List It} {k : Nat} {v : Value} (h : BackInv w B l k wr v) : Fr No w wr := by
  obtain ⟨S, T, h1, _⟩ := h
  exact h1.fr
/-- One step: the writer's call, and what is made of what is wanted. -/
theorem BackInv.next {w wr : World} {B : Nat} {l : List It} {k : Nat} {x : It} {S T : Nat → Prop} {v : Value} {p q : List UInt8} {bad bad' : Bool} (hx : l[k]? = some x) (hp : p = encIs (l.take k)) (hb : bad = badIs (l.take k)) (hq : q = p ++ encI x) (hbb : bad' = (bad || badI x))
    (h1 : WInv w wr B S q bad') (h2 : Beside w wr B S T v q) : BackInv w B l (k + 1) wr v := by
  refine ⟨S, T, ?_, ?_⟩
  · rw [take_more l k x hx, encIs_snoc, badIs_snoc, ← hp, ← hb, ← hq, ← hbb]
    exact h1
  · rw [take_more l k x hx, encIs_snoc, ← hp, ← hq]
    exact h2

set_option maxRecDepth 40000 in
set_option maxHeartbeats 16000000 in
theorem wireBack_go (w : World) (a : Option Addr) (cap : Nat) (l : List It) (hm : l.length ≤ maxLen) (hs : smallB l = true) (hi : Items w a l) :
    Calls Try.prog 3 #[.slice a l.length cap] w fun e w' => e = .returned (.bool true) ∧ Fr No w w' := by
  have CS := small_c a cap l w hm hi
  rw [hs] at CS
  obtain ⟨h60, h500⟩ := smallB_yes l hs
  have HLen : Hid (∀ k, (encIs (l.take k)).length ≤ 30540) := Lib.hid (fun k => by
    have h := encIs_le (l.take k) fun x hx => by
      obtain ⟨j, hj, rfl⟩ := List.mem_iff_getElem.1 (List.mem_of_mem_take hx)
      refine ⟨h500 j _ (List.getElem?_eq_getElem hj), ?_⟩
      obtain ⟨b, o, _, hx⟩ := hi (by omega)
      exact (wf_i64 (hx j _ (List.getElem?_eq_getElem hj)).wn).2
    rw [List.length_take] at h
    omega)
  obtain ⟨len, hlen⟩ : ∃ len, l.length = len := ⟨_, rfl⟩
  rw [hlen] at CS h60 ⊢
  have CS := Lib.hid CS
  have HL := Lib.hid hlen
  have HI := Lib.hid hi
  have H5 := Lib.hid h500
  clear hi hlen h500 hs hm
  go_enter Try.func3, Try.ntmps3
  go_wp2_with fail
  refine (show Calls _ _ _ _ _ from CS.out).mono ?_
  rintro e w1 ⟨rfl, f1⟩
  have HB0 : Hid (BackInv w w1.heap.size l 0 (w1.alloc (.cells #[.slice none 0 0, .bool false] 27)) (.slice none 0 0)) :=
    Lib.hid ⟨No, No, WInv.new w w1 f1, Row.nil _ _, fun x h => h.elim⟩
  clear f1 CS
  go_wp2_with fail
  generalize w1.heap.size = B at *
  go_loopw [4, 5, 21] (fun u y i wr => ∃ (k : Nat) (v : Value), v = u ∧ y = .bool (badIs (l.take k)) ∧ i = .int .i64 k ∧ k ≤ len ∧ BackInv w B l k wr v) (fun _ _ i _ => len - (intOf i).toNat)
  case atStart => exact ⟨0, _, rfl, rfl, rfl, Nat.zero_le _, HB0.out⟩
  case round =>
    obtain ⟨k, v, hv, rfl, rfl, hk, hinv⟩ := hrel
    subst hv
    clear HB0
    have HV := Lib.hid hinv
    clear hinv
    by_cases hlt : k < len
    · have hkl : k < l.length := by rw [HL.out]; exact hlt
      obtain ⟨b, o, rfl, hx⟩ := HI.out (by omega)
      have hx := (hx k l[k] (List.getElem?_eq_getElem hkl)).keep HV.out.fr
      have HX : Hid (l[k]? = some l[k]) := Lib.hid (List.getElem?_eq_getElem hkl)
      have h500 := H5.out k l[k] HX.out
      generalize l[k] = x at hx HX h500
      obtain ⟨c0, c1, c2, wk, wn, h1, h2, hrd⟩ := hx
      obtain ⟨kd, n, a, c, xb⟩ := x
      simp only at c0 c1 c2 wk wn h1 h2 hrd h500
      have hn := wf_i64 wn
      unfold maxLen at h2
      have HRd := Lib.hid hrd
      obtain ⟨xm, hxm⟩ : ∃ xm, xb.length = xm := ⟨_, rfl⟩
      rw [hxm] at c2 h1 h500
      have HXm := Lib.hid hxm
      obtain ⟨S, T, hw0, hbs0⟩ := HV.out
      have hle := HLen.out k
      obtain ⟨p, hp⟩ : ∃ p, p = encIs (l.take k) := ⟨_, rfl⟩
      obtain ⟨bad, hbad⟩ : ∃ bad, bad = badIs (l.take k) := ⟨_, rfl⟩
      rw [← hp] at hw0 hbs0 hle
      rw [← hbad] at hw0 ⊢
      have hSlt : ∀ x, S x → x < wr.heap.size := by
        obtain ⟨_, _, _, _, hS⟩ := hw0.wr
        exact hS
      have hBlt := hw0.wr.lt
      have fA := (Fr.refl No wr).alloc (.cells #[.int .i64 kd, .int .i64 n, .slice a xm c] 29)
      have HW := Lib.hid (hw0.keep fA)
      have HBs := Lib.hid (hbs0.keep fA)
      have HRd1 : Hid (Rd (wr.alloc (.cells #[.int .i64 kd, .int .i64 n, .slice a xm c] 29)) a xb) := Lib.hid (hrd.keep fA)
      have HAp : Hid (In (wr.alloc (.cells #[.int .i64 kd, .int .i64 n, .slice a xm c] 29)) (fun k => k ≠ B ∧ ¬ S k) a xb) := by
        obtain ⟨b', o', _, hx'⟩ := HI.out (by omega)
        exact Lib.hid (HW.out.apart (hx' k _ HX.out).rd)
      have Hp := Lib.hid hp
      have Hbad := Lib.hid hbad
      have HVs : Hid (Fr No w wr) := Lib.hid hw0.fr
      clear wk wn hrd hxm hw0 hbs0 hp hbad fA HV
      have HBlt : Hid (B < wr.heap.size) := Lib.hid hBlt
      clear hBlt
      have HSlt : Hid (∀ x, S x → x < wr.heap.size) := Lib.hid hSlt
      clear hSlt
      by_cases k1 : kd = 1
      · subst k1
        by_cases hneg : n < 0
        · as_aux_lemma =>
            have HEq : Hid (p = p ++ encI ⟨1, n, a, c, xb⟩ ∧ true = (bad || badI ⟨1, n, a, c, xb⟩)) := Lib.hid ⟨by simp [encI, hneg], by simp [badI, hneg]⟩
            have C1 := Lib.hid (wnum_neg n _ B S p bad HW.out.wr hneg)
            go_wp2_with fail
            refine (show Calls _ _ _ _ _ from C1.out).mono ?_
            intro e w2 hret
            have hw2 := HW.out.of_ret hret
            have hb2 := HBs.out.ret hret
            obtain ⟨rfl, _, hf2⟩ := hret
            have c1' : w2.cell? ⟨wr.heap.size, 1, none⟩ = some (.int .i64 n) := by
              refine hf2.cell (by rw [At.cell (At.new wr _ _)]; rfl) fun h => ?_
              rcases h with h | h
              · have : wr.heap.size = B := h
                exact Nat.lt_irrefl _ (this ▸ HBlt.out)
              · exact Nat.lt_irrefl _ (HSlt.out _ h)
            have HN : Hid (BackInv w B l (k + 1) w2 v) := Lib.hid (BackInv.next HX.out Hp.out Hbad.out HEq.out.1 HEq.out.2 hw2 hb2)
            have HBd : Hid (true = badIs (l.take (k + 1))) := Lib.hid (by rw [take_more l k _ HX.out, badIs_snoc, ← Hbad.out]; exact HEq.out.2)
            clear hw2 hb2 C1 hf2
            go_wp2_with fail
            go_roundw
            case rel => exact ⟨k + 1, _, rfl, by rw [HBd.out], by go_num, by omega, HN.out⟩
            case measure => simp [intOf]; omega
        · as_aux_lemma =>
            obtain ⟨N, rfl⟩ := Int.eq_ofNat_of_zero_le (show 0 ≤ n by omega)
            have hN : N < 9223372036854775808 := by omega
            have HEq : Hid (p ++ enc N = p ++ encI ⟨1, (N : Int), a, c, xb⟩ ∧ bad = (bad || badI ⟨1, (N : Int), a, c, xb⟩)) := Lib.hid ⟨by simp [encI, show ¬ ((N : Int) < 0) by omega], by simp [badI, show ¬ ((N : Int) < 0) by omega]⟩
            have HBd : Hid (bad = badIs (l.take (k + 1))) := Lib.hid (by rw [take_more l k _ HX.out, badIs_snoc, ← Hbad.out]; exact HEq.out.2)
            have C1 := Lib.hid (wnum_c N _ B S p bad HW.out.wr hN (by omega))
            have h9 := enc_len9 hN
            go_wp2_with fail
            refine (show Calls _ _ _ _ _ from C1.out).mono ?_
            intro e w2 hret
            have hw2 := HW.out.of_ret hret
            have hb2 := HBs.out.ret hret
            obtain ⟨rfl, _, hf2⟩ := hret
            have c1' : w2.cell? ⟨wr.heap.size, 1, none⟩ = some (.int .i64 (N : Int)) := by
              refine hf2.cell (by rw [At.cell (At.new wr _ _)]; rfl) fun h => ?_
              rcases h with h | h
              · have : wr.heap.size = B := h
                exact Nat.lt_irrefl _ (this ▸ HBlt.out)
              · exact Nat.lt_irrefl _ (HSlt.out _ h)
            have HW2 := Lib.hid hw2
            have HB2 := Lib.hid hb2
            have C2 := Lib.hid (refNumber_c N w2 hN)
            clear hw2 hb2 C1 hf2
            go_wp2_with fail
            refine (show Calls _ _ _ _ _ from C2.out).mono ?_
            rintro e w3 ⟨u, rfl, hrow, f3⟩
            obtain ⟨au, cu, rfl, _, _, hinu⟩ := hrow.form
            have hw3 := HW2.out.keep f3
            have hb3 := HB2.out.keep f3
            obtain ⟨v4, w4, hrun, hrow4, f4⟩ := hb3.1.append au (enc N).length cu (enc N) rfl hinu.rd (by omega)
            obtain ⟨hw4, hb4⟩ := hb3.grow hw3 hrow4 f4
            have HN : Hid (BackInv w B l (k + 1) w4 v4) := Lib.hid (BackInv.next HX.out Hp.out Hbad.out HEq.out.1 HEq.out.2 hw4 hb4)
            have HRUN := Lib.hid hrun
            clear hrow f3 hinu hw3 hb3 hrun hrow4 f4 hw4 hb4 C2 h9
            generalize (enc N).length = q at HRUN
            go_wp2_with (at_builtin; refine wpList_append_run rfl _ _ 25 rfl rfl rfl HRUN.out ?_)
            go_roundw
            case rel => exact ⟨k + 1, _, rfl, by rw [HBd.out], by go_num, by omega, HN.out⟩
            case measure => simp [intOf]; omega
      by_cases k2 : kd = 2
      · subst k2
        · as_aux_lemma =>
            have HEq : Hid (p ++ (enc xm ++ xb) = p ++ encI ⟨2, n, a, c, xb⟩ ∧ bad = (bad || badI ⟨2, n, a, c, xb⟩)) := Lib.hid ⟨by simp [encI, HXm.out], by simp [badI]⟩
            have HBd : Hid (bad = badIs (l.take (k + 1))) := Lib.hid (by rw [take_more l k _ HX.out, badIs_snoc, ← Hbad.out]; exact HEq.out.2)
            have C1 := Lib.hid (wtext_c a xm c xb _ B S p bad HW.out.wr HXm.out (by omega) HAp.out)
            go_wp2_with fail
            refine (show Calls _ _ _ _ _ from C1.out).mono ?_
            intro e w2 hret
            have hw2 := HW.out.of_ret hret
            have hb2 := HBs.out.ret hret
            obtain ⟨rfl, _, hf2⟩ := hret
            have c1' : w2.cell? ⟨wr.heap.size, 2, none⟩ = some (.slice a xm c) := by
              refine hf2.cell (by rw [At.cell (At.new wr _ _)]; rfl) fun h => ?_
              rcases h with h | h
              · have : wr.heap.size = B := h
                exact Nat.lt_irrefl _ (this ▸ HBlt.out)
              · exact Nat.lt_irrefl _ (HSlt.out _ h)
            have HW2 := Lib.hid hw2
            have HB2 := Lib.hid hb2
            have hrd2 := (HAp.out.keep hf2 fun k hk h => h.elim hk.1 hk.2).rd
            have C2 := Lib.hid (refText_c a xm c xb w2 HXm.out (by omega) hrd2)
            have h9 := enc_len9 (show xm < 9223372036854775808 by omega)
            have Hll : Hid ((enc xm ++ xb).length ≤ 509) := Lib.hid (by rw [List.length_append, HXm.out]; omega)
            clear hw2 hb2 C1 hf2 hrd2 h9
            go_wp2_with fail
            refine (show Calls _ _ _ _ _ from C2.out).mono ?_
            rintro e w3 ⟨u, rfl, hrow, f3⟩
            obtain ⟨au, cu, rfl, _, _, hinu⟩ := hrow.form
            have hw3 := HW2.out.keep f3
            have hb3 := HB2.out.keep f3
            obtain ⟨v4, w4, hrun, hrow4, f4⟩ := hb3.1.append au _ cu (enc xm ++ xb) rfl hinu.rd (by have := Hll.out; omega)
            obtain ⟨hw4, hb4⟩ := hb3.grow hw3 hrow4 f4
            have HN : Hid (BackInv w B l (k + 1) w4 v4) := Lib.hid (BackInv.next HX.out Hp.out Hbad.out HEq.out.1 HEq.out.2 hw4 hb4)
            have HRUN := Lib.hid hrun
            clear hrow f3 hinu hw3 hb3 hrun hrow4 f4 hw4 hb4 C2
            generalize (enc xm ++ xb).length = q at HRUN Hll ⊢
            go_wp2_with (at_builtin; refine wpList_append_run rfl _ _ 25 rfl rfl rfl HRUN.out ?_)
            go_roundw
            case rel => exact ⟨k + 1, _, rfl, by rw [HBd.out], by go_num, by omega, HN.out⟩
            case measure => simp [intOf]; omega
      by_cases k3 : kd = 3
      · subst k3
        · as_aux_lemma =>
            have HEq : Hid (p ++ xb = p ++ encI ⟨3, n, a, c, xb⟩ ∧ bad = (bad || badI ⟨3, n, a, c, xb⟩)) := Lib.hid ⟨by simp [encI], by simp [badI]⟩
            have HBd : Hid (bad = badIs (l.take (k + 1))) := Lib.hid (by rw [take_more l k _ HX.out, badIs_snoc, ← Hbad.out]; exact HEq.out.2)
            have C1 := Lib.hid (wraw_c a xm c xb _ B S p bad HW.out.wr HXm.out (by omega) HRd1.out)
            go_wp2_with fail
            refine (show Calls _ _ _ _ _ from C1.out).mono ?_
            intro e w2 hret
            have hw2 := HW.out.of_ret hret
            have hb2 := HBs.out.ret hret
            obtain ⟨rfl, _, hf2⟩ := hret
            have c1' : w2.cell? ⟨wr.heap.size, 2, none⟩ = some (.slice a xm c) := by
              refine hf2.cell (by rw [At.cell (At.new wr _ _)]; rfl) fun h => ?_
              rcases h with h | h
              · have : wr.heap.size = B := h
                exact Nat.lt_irrefl _ (this ▸ HBlt.out)
              · exact Nat.lt_irrefl _ (HSlt.out _ h)
            have hrd2 := (HAp.out.keep hf2 fun k hk h => h.elim hk.1 hk.2).rd
            obtain ⟨v4, w4, hrun, hrow4, f4⟩ := hb2.1.append a xm c xb HXm.out hrd2 (by omega)
            obtain ⟨hw4, hb4⟩ := hb2.grow hw2 hrow4 f4
            have HN : Hid (BackInv w B l (k + 1) w4 v4) := Lib.hid (BackInv.next HX.out Hp.out Hbad.out HEq.out.1 HEq.out.2 hw4 hb4)
            have HRUN := Lib.hid hrun
            clear hrun hrow4 f4 hw4 hb4 hw2 hb2 hf2 hrd2 C1
            go_wp2_with (at_builtin; refine wpList_append_run rfl _ _ 25 rfl rfl rfl HRUN.out ?_)
            go_roundw
            case rel => exact ⟨k + 1, _, rfl, by rw [HBd.out], by go_num, by omega, HN.out⟩
            case measure => simp [intOf]; omega
      by_cases k4 : kd = 4
      · subst k4
        · as_aux_lemma =>
            have HEq : Hid (p ++ [lowB n] = p ++ encI ⟨4, n, a, c, xb⟩ ∧ bad = (bad || badI ⟨4, n, a, c, xb⟩)) := Lib.hid ⟨by simp [encI], by simp [badI]⟩
            have HBd : Hid (bad = badIs (l.take (k + 1))) := Lib.hid (by rw [take_more l k _ HX.out, badIs_snoc, ← Hbad.out]; exact HEq.out.2)
            have C1 := wbyte_c (lowB n) _ B S p bad HW.out.wr (by omega)
            rw [lowB_nat] at C1
            have C1 := Lib.hid C1
            go_wp2_with fail
            refine (show Calls _ _ _ _ _ from C1.out).mono ?_
            intro e w2 hret
            have hw2 := HW.out.of_ret hret
            have hb2 := HBs.out.ret hret
            obtain ⟨rfl, _, hf2⟩ := hret
            have c1' : w2.cell? ⟨wr.heap.size, 1, none⟩ = some (.int .i64 n) := by
              refine hf2.cell (by rw [At.cell (At.new wr _ _)]; rfl) fun h => ?_
              rcases h with h | h
              · have : wr.heap.size = B := h
                exact Nat.lt_irrefl _ (this ▸ HBlt.out)
              · exact Nat.lt_irrefl _ (HSlt.out _ h)
            obtain ⟨v4, w4, hrun, hrow4, f4⟩ := hb2.1.push (fun k hk => (hb2.2 k hk).2.2.2) (lowB n) (by omega)
            rw [lowB_nat] at hrun
            obtain ⟨hw4, hb4⟩ := hb2.grow hw2 hrow4 f4
            have HN : Hid (BackInv w B l (k + 1) w4 v4) := Lib.hid (BackInv.next HX.out Hp.out Hbad.out HEq.out.1 HEq.out.2 hw4 hb4)
            have HRUN := Lib.hid hrun
            clear hrun hrow4 f4 hw4 hb4 hw2 hb2 hf2 C1
            go_wp2_with (at_builtin; refine wpList_append_run rfl _ _ 25 rfl rfl rfl HRUN.out ?_)
            go_roundw
            case rel => exact ⟨k + 1, _, rfl, by rw [HBd.out], by go_num, by omega, HN.out⟩
            case measure => simp [intOf]; omega
      · have e1 : (kd == 1) = false := by simpa using k1
        have e2 : (kd == 2) = false := by simpa using k2
        have e3 : (kd == 3) = false := by simpa using k3
        have e4 : (kd == 4) = false := by simpa using k4
        have HEq : Hid (p = p ++ encI ⟨kd, n, a, c, xb⟩ ∧ bad = (bad || badI ⟨kd, n, a, c, xb⟩)) := Lib.hid ⟨by simp [encI, k1, k2, k3, k4], by simp [badI, k1]⟩
        have HN : Hid (BackInv w B l (k + 1) (wr.alloc (.cells #[.int .i64 kd, .int .i64 n, .slice a xm c] 29)) v) := Lib.hid (BackInv.next HX.out Hp.out Hbad.out HEq.out.1 HEq.out.2 HW.out HBs.out)
        have HBd : Hid (bad = badIs (l.take (k + 1))) := Lib.hid (by rw [take_more l k _ HX.out, badIs_snoc, ← Hbad.out]; exact HEq.out.2)
        clear k1 k2 k3 k4
        go_wp2_with fail
        go_roundw
        case rel => exact ⟨k + 1, _, rfl, by rw [HBd.out], by go_num, by omega, HN.out⟩
        case measure => simp [intOf]; omega
    · have hk' : k = len := by omega
      have hall : l.take k = l := List.take_of_length_le (by rw [HL.out]; omega)
      have hle := HLen.out k
      obtain ⟨S, T, hw0, hbs0⟩ := HV.out
      rw [hall] at hw0 hbs0 hle ⊢
      obtain ⟨p, hp⟩ : ∃ p, p = encIs l := ⟨_, rfl⟩
      obtain ⟨bad, hbad⟩ : ∃ bad, bad = badIs l := ⟨_, rfl⟩
      rw [← hp] at hw0 hbs0 hle
      rw [← hbad] at hw0 ⊢
      have HW := Lib.hid hw0
      have HBs := Lib.hid hbs0
      have Hp := Lib.hid hp
      have Hbad := Lib.hid hbad
      have Hk := Lib.hid hk'
      clear hk' hall hp hbad hw0 hbs0 HV
      cases bad with
      | true =>
        have C1 := Lib.hid (wbytes_bad wr B S p HW.out.wr)
        go_wp2_with fail
        refine (show Calls _ _ _ _ _ from C1.out).mono ?_
        rintro e w2 ⟨rfl, rfl⟩
        go_wp2_with fail
        refine (awake_c wr).mono ?_
        rintro e w6 ⟨rfl, f⟩
        have F := Lib.hid (HW.out.fr.then_ f fun _ _ h => h)
        clear f
        go_wp2_with fail
        go_ret
        exact ⟨rfl, F.out⟩
      | false =>
        have C1 := Lib.hid (wbytes_c wr B S p HW.out.wr (by omega))
        obtain ⟨n, hn⟩ : ∃ n, p.length = n := ⟨_, rfl⟩
        rw [hn] at hle
        have Hn := Lib.hid hn
        clear hn
        go_wp2_with fail
        refine (show Calls _ _ _ _ _ from C1.out).mono ?_
        rintro e w2 ⟨a1, c1, rfl, hc1, hc2, hrow1, f2⟩
        have F2 := Lib.hid (HW.out.fr.then_ f2 fun _ _ h => h)
        have HWs := HW.out.fr.size
        obtain ⟨av, cv, rfl, _, _, hinv⟩ := (HBs.out.keep f2).1.form
        have HR2 := Lib.hid hrow1
        have C2 := Lib.hid (same_yes rfl rfl hrow1.rd hinv.rd rfl (cap := c1) (cap' := cv))
        have C3 := Lib.hid (newr_c a1 p.length c1 p w2 rfl (by rw [Hn.out]; omega) hrow1.rd)
        rw [Hn.out] at hc1 HR2 C2 C3 ⊢
        unfold maxLen at hc2
        clear C1 f2 hrow1 hinv HW HBs
        go_wp2_with fail
        refine (show Calls _ _ _ _ _ from C2.out).mono ?_
        rintro e w3 ⟨rfl, rfl⟩
        go_wp2_with fail
        refine (show Calls _ _ _ _ _ from C3.out).mono ?_
        rintro e w3 ⟨R, U, rfl, hrr, f3, hR, hU⟩
        have F3 := Lib.hid (F2.out.then_ f3 fun _ _ h => h)
        have HRR : Hid (w.heap.size ≤ R) := Lib.hid (Nat.le_trans F2.out.size hR)
        have HQ := Lib.hid hrr
        have HR3 := Lib.hid (HR2.out.keep f3 fun _ _ h => h)
        have HT : Hid (∀ k, Gr No wr w2 k → k ≠ R ∧ wr.heap.size ≤ k ∧ ¬ U k) := Lib.hid (fun k hk => by
          simp [Gr, No] at hk
          refine ⟨by omega, hk.1, fun h => ?_⟩
          have := hU k h
          omega)
        clear f3 hR hrr hU C2 C3 F2 HR2
        go_wp2_with fail
        go_loopw [99] (fun i wr' => ∃ (j : Nat) (q : List UInt8), i = .int .i64 j ∧ j ≤ n ∧ q.length = n ∧ Fr No w wr' ∧ Rr wr' R U (p, false) ∧ Row wr' (Gr No wr w2) (.slice a1 n c1) q) (fun i _ => n - (intOf i).toNat)
        case atStart => exact ⟨0, p, rfl, Nat.zero_le _, Hn.out, F3.out, HQ.out, HR3.out⟩
        case round =>
          obtain ⟨j, q, rfl, hj, hq, hfr, hrr, hrow⟩ := hrel
          clear F3 HQ HR3
          have Hq := Lib.hid hq
          have HF := Lib.hid hfr
          have HQ := Lib.hid hrr
          have HRw := Lib.hid hrow
          clear hq hfr hrr hrow
          by_cases hjn : j < n
          · obtain ⟨g, cap2, hv, hg, _, _, c0, c1', hset⟩ := HRw.out.at_ (i := j) (by rw [Hq.out]; exact hjn)
            injection hv with hv1 hv2 hv3
            subst hv1
            have hx := (q.getD j 0).toNat_lt
            obtain ⟨z, hz⟩ : ∃ z : UInt8, z = ~~~ (q.getD j 0) := ⟨_, rfl⟩
            have HE : Hid (bits BinOp.xor IntKind.u8 (if IntKind.u8.signed = true then -1 else IntKind.u8.max) ((q.getD j 0).toNat : Int) = (z.toNat : Int)) := Lib.hid (by rw [hz]; exact not_u8 (q.getD j 0))
            obtain ⟨hrow2, f2⟩ := hset z
            have HF2 := Lib.hid (HF.out.then_ f2 fun k hk h => by
              have := (HT.out k h).2.1
              omega)
            have HQ2 := Lib.hid (HQ.out.keep f2 (fun h => (HT.out R h).1 rfl) fun k hk h => (HT.out k h).2.2 hk)
            have HRw2 := Lib.hid hrow2
            have Hq2 : Hid ((q.set j z).length = n) := Lib.hid (by rw [List.length_set]; exact Hq.out)
            have Hset := Lib.hid hset
            generalize q.getD j 0 = x at *
            have Hz := Lib.hid hz
            clear hset hrow2 f2 hz hv2 hv3 hg
            go_wp2_with fail
            go_roundw
            case rel => exact ⟨j + 1, _, by go_num, by omega, Hq2.out, by rw [HE.out]; exact HF2.out, by rw [HE.out]; exact HQ2.out, by rw [HE.out]; exact HRw2.out⟩
            case measure => simp [intOf]; omega
          · have HQ0 : Hid (Rr wr R U (encIs (l.drop 0), false)) := by
              rw [List.drop_zero, ← Hp.out]
              exact HQ
            have HF0 := Lib.hid HF.out
            clear HRw HQ Hq
            go_wp2_with fail
            go_loopw [113] (fun i wr' => ∃ (k : Nat), i = .int .i64 k ∧ k ≤ len ∧ Fr No w wr' ∧ Rr wr' R U (encIs (l.drop k), false)) (fun i _ => len - (intOf i).toNat)
            case atStart => exact ⟨0, rfl, Nat.zero_le _, HF0.out, HQ0.out⟩
            case round =>
              obtain ⟨k, rfl, hk, hfr, hrr⟩ := hrel
              clear HF HF0 HQ0
              have HF := Lib.hid hfr
              have HQ := Lib.hid hrr
              clear hfr hrr
              by_cases hlt : k < len
              · have hkl : k < l.length := by rw [HL.out]; exact hlt
                obtain ⟨b, o, rfl, hx⟩ := HI.out (by omega)
                have hx0 := (hx k l[k] (List.getElem?_eq_getElem hkl)).rd
                have hx := (hx k l[k] (List.getElem?_eq_getElem hkl)).keep HF.out
                have HX : Hid (l[k]? = some l[k]) := Lib.hid (List.getElem?_eq_getElem hkl)
                generalize l[k] = x at hx HX hx0
                obtain ⟨c0, c1', c2, wk, wn, h1, h2, hrd⟩ := hx
                obtain ⟨kd, m, a, c, xb⟩ := x
                simp only at c0 c1' c2 wk wn h1 h2 hrd
                have hn := wf_i64 wn
                unfold maxLen at h2
                have HRd : Hid (Rd w a xb) := Lib.hid hx0
                clear hx0
                have HQ1 := Lib.hid (HQ.out.keep ((Fr.refl No wr).alloc (.cells #[.int .i64 kd, .int .i64 m, .slice a xb.length c] 29)) (fun h => h) fun _ _ h => h)
                have HF1 := Lib.hid (HF.out.alloc (.cells #[.int .i64 kd, .int .i64 m, .slice a xb.length c] 29))
                have HDr : Hid (encIs (l.drop k) = encI ⟨kd, m, a, c, xb⟩ ++ encIs (l.drop (k + 1))) := Lib.hid (by rw [drop_more l k _ HX.out, encIs_cons])
                rw [HDr.out] at HQ1
                have HRi : Hid (R < wr.heap.size) := Lib.hid HQ.out.lt
                obtain ⟨xm, hxm⟩ : ∃ xm, xb.length = xm := ⟨_, rfl⟩
                rw [hxm] at c2 h1 HQ1 HF1
                have HXm := Lib.hid hxm
                clear wk wn hrd hxm HQ HF
                by_cases k1 : kd = 1
                · subst k1
                  have hpos := badIs_no (Hbad.out.symm) HX.out rfl
                  obtain ⟨N, rfl⟩ := Int.eq_ofNat_of_zero_le hpos
                  have e0 : encI ⟨1, (N : Int), a, c, xb⟩ = enc N := by simp [encI]; omega
                  rw [e0] at HQ1
                  have C1 : ∀ W, Rr W R U (enc N ++ encIs (l.drop (k + 1)), false) → Calls Try.prog 20 #[.pointer (some ⟨R, 0, none⟩)] W (StRet (.int .i64 (N : Int)) R U (encIs (l.drop (k + 1)), false) W) := fun W h => by
                    have h := rnum_c W R U _ h
                    rw [numS_enc N _ (by omega)] at h
                    exact h
                  have C1 := Lib.hid C1
                  clear e0 hpos
                  go_wp2_with fail
                  go_region_held3 (fun w' => w'.cell? ⟨wr.heap.size, 1, none⟩ = some (.int .i64 (N : Int))) (first | assumption | go_keep) (first | (go_at_call 20; refine (C1.out _ HQ1.out.drew).mono ?_; intro e w4 hret; obtain ⟨rfl, hr4, f4⟩ := hret; have c4 := f4.cell (p := ⟨wr.heap.size, 1, none⟩) (v := .int .i64 (N : Int)) (At.cell (At.new wr _ _) 1) (fun h => Nat.lt_irrefl _ (show wr.heap.size < wr.heap.size from (show wr.heap.size = R from h) ▸ HRi.out)); have H4 := Lib.hid hr4; have F4 := Lib.hid (HF1.out.drew.new1 f4 HRR.out); clear hr4 f4))
                  go_wp2_with fail
                  refine (show Calls _ _ _ _ _ from rbad_c w4 R U _ H4.out).mono ?_
                  rintro e w5 ⟨rfl, rfl⟩
                  go_wp2_with fail
                  go_roundw
                  case rel => exact ⟨k + 1, by go_num, by omega, F4.out, H4.out⟩
                  case measure => simp [intOf]; omega
                by_cases k2 : kd = 2
                · subst k2
                  have e0 : encI ⟨2, m, a, c, xb⟩ = enc xb.length ++ xb := by simp [encI]
                  rw [e0, List.append_assoc] at HQ1
                  have C1 : ∀ W, Rr W R U (enc xb.length ++ (xb ++ encIs (l.drop (k + 1))), false) → Calls Try.prog 21 #[.pointer (some ⟨R, 0, none⟩)] W (SliceRet R U xb (encIs (l.drop (k + 1)), false) W) := fun W h => by
                    have h := rtext_c W R U _ h
                    rw [textS_enc xb _ (by rw [HXm.out]; omega)] at h
                    exact h
                  have C1 := Lib.hid C1
                  clear e0
                  go_wp2_with fail
                  go_region_held3 (fun w' => w'.cell? ⟨wr.heap.size, 2, none⟩ = some (.slice a xm c)) (first | assumption | go_keep) (first | (go_at_call 21; refine (C1.out _ HQ1.out.drew).mono ?_; intro e w4 hret; obtain ⟨a4, cap4, rfl, hin4, hr4, f4⟩ := hret; rw [HXm.out]; have HI4 := Lib.hid hin4.rd; clear hin4; have c4 := f4.cell (p := ⟨wr.heap.size, 2, none⟩) (v := .slice a xm c) (At.cell (At.new wr _ _) 2) (fun h => Nat.lt_irrefl _ (show wr.heap.size < wr.heap.size from (show wr.heap.size = R from h) ▸ HRi.out)); have H4 := Lib.hid hr4; have F4 := Lib.hid (HF1.out.drew.new1 f4 HRR.out); clear hr4 f4) | (go_at_call 18; refine (same_yes HXm.out HXm.out HI4.out (HRd.out.keep F4.out) rfl).mono ?_; rintro e w5 ⟨rfl, rfl⟩))
                  go_wp2_with fail
                  refine (show Calls _ _ _ _ _ from rbad_c w4 R U _ H4.out).mono ?_
                  rintro e w5 ⟨rfl, rfl⟩
                  go_wp2_with fail
                  go_roundw
                  case rel => exact ⟨k + 1, by go_num, by omega, F4.out, H4.out⟩
                  case measure => simp [intOf]; omega
                by_cases k3 : kd = 3
                · subst k3
                  have e0 : encI ⟨3, m, a, c, xb⟩ = xb := by simp [encI]
                  rw [e0] at HQ1
                  have C1 : ∀ W, Rr W R U (xb ++ encIs (l.drop (k + 1)), false) → Calls Try.prog 22 #[.pointer (some ⟨R, 0, none⟩), .int .i64 (xm : Int)] W (SliceRet R U xb (encIs (l.drop (k + 1)), false) W) := fun W h => by
                    have h := rraw_c (xm : Int) W R U _ h (by omega)
                    rw [← HXm.out, rawS_enc xb _] at h
                    rw [← HXm.out]
                    exact h
                  have C1 := Lib.hid C1
                  clear e0
                  go_wp2_with fail
                  go_region_held3 (fun w' => w'.cell? ⟨wr.heap.size, 2, none⟩ = some (.slice a xm c)) (first | assumption | go_keep) (first | (go_at_call 22; refine (C1.out _ HQ1.out.drew).mono ?_; intro e w4 hret; obtain ⟨a4, cap4, rfl, hin4, hr4, f4⟩ := hret; rw [HXm.out]; have HI4 := Lib.hid hin4.rd; clear hin4; have c4 := f4.cell (p := ⟨wr.heap.size, 2, none⟩) (v := .slice a xm c) (At.cell (At.new wr _ _) 2) (fun h => Nat.lt_irrefl _ (show wr.heap.size < wr.heap.size from (show wr.heap.size = R from h) ▸ HRi.out)); have H4 := Lib.hid hr4; have F4 := Lib.hid (HF1.out.drew.new1 f4 HRR.out); clear hr4 f4) | (go_at_call 18; refine (same_yes HXm.out HXm.out HI4.out (HRd.out.keep F4.out) rfl).mono ?_; rintro e w5 ⟨rfl, rfl⟩))
                  go_wp2_with fail
                  refine (show Calls _ _ _ _ _ from rbad_c w4 R U _ H4.out).mono ?_
                  rintro e w5 ⟨rfl, rfl⟩
                  go_wp2_with fail
                  go_roundw
                  case rel => exact ⟨k + 1, by go_num, by omega, F4.out, H4.out⟩
                  case measure => simp [intOf]; omega
                by_cases k4 : kd = 4
                · subst k4
                  have e0 : encI ⟨4, m, a, c, xb⟩ = [lowB m] := by simp [encI]
                  rw [e0, List.singleton_append] at HQ1
                  have C1 : ∀ W, Rr W R U (lowB m :: encIs (l.drop (k + 1)), false) → Calls Try.prog 23 #[.pointer (some ⟨R, 0, none⟩)] W (StRet (.int .u8 (m % 256)) R U (encIs (l.drop (k + 1)), false) W) := fun W h => by
                    have h := rbyte_c W R U _ h
                    rw [byteS_enc] at h
                    simp only at h
                    rw [lowB_nat] at h
                    exact h
                  have C1 := Lib.hid C1
                  clear e0
                  go_wp2_with fail
                  go_region_held3 (fun w' => w'.cell? ⟨wr.heap.size, 1, none⟩ = some (.int .i64 m)) (first | assumption | go_keep) (first | (go_at_call 23; refine (C1.out _ HQ1.out.drew).mono ?_; intro e w4 hret; obtain ⟨rfl, hr4, f4⟩ := hret; have c4 := f4.cell (p := ⟨wr.heap.size, 1, none⟩) (v := .int .i64 m) (At.cell (At.new wr _ _) 1) (fun h => Nat.lt_irrefl _ (show wr.heap.size < wr.heap.size from (show wr.heap.size = R from h) ▸ HRi.out)); have H4 := Lib.hid hr4; have F4 := Lib.hid (HF1.out.drew.new1 f4 HRR.out); clear hr4 f4))
                  go_wp2_with fail
                  refine (show Calls _ _ _ _ _ from rbad_c w4 R U _ H4.out).mono ?_
                  rintro e w5 ⟨rfl, rfl⟩
                  go_wp2_with fail
                  go_roundw
                  case rel => exact ⟨k + 1, by go_num, by omega, F4.out, H4.out⟩
                  case measure => simp [intOf]; omega
                · have e1 : (kd == 1) = false := by simpa using k1
                  have e2 : (kd == 2) = false := by simpa using k2
                  have e3 : (kd == 3) = false := by simpa using k3
                  have e4 : (kd == 4) = false := by simpa using k4
                  have e0 : encI ⟨kd, m, a, c, xb⟩ = [] := by simp [encI, k1, k2, k3, k4]
                  rw [e0, List.nil_append] at HQ1
                  have C1 := Lib.hid (rbad_c _ R U _ HQ1.out)
                  clear k1 k2 k3 k4 e0
                  go_wp2_with fail
                  refine (show Calls _ _ _ _ _ from C1.out).mono ?_
                  rintro e w5 ⟨rfl, rfl⟩
                  go_wp2_with fail
                  go_roundw
                  case rel => exact ⟨k + 1, by go_num, by omega, HF1.out, HQ1.out⟩
                  case measure => simp [intOf]; omega
              · have hq := HQ.out
                rw [List.drop_eq_nil_of_le (by rw [HL.out]; omega)] at hq
                have hq : Rr wr R U ([], false) := hq
                have C1 := rdone_c wr R U _ hq
                rw [done0] at C1
                have C1 := Lib.hid C1
                have C2 : Calls Try.prog 26 #[.pointer (some ⟨R, 0, none⟩)] wr fun e w' => e = .returned (.int .i64 0) ∧ wr = w' := rleft_c wr R U _ hq
                have C2 := Lib.hid C2
                clear hq
                go_wp2_with fail
                refine (show Calls _ _ _ _ _ from C1.out).mono ?_
                rintro e w5 ⟨rfl, rfl⟩
                go_wp2_with fail
                refine (show Calls _ _ _ _ _ from C2.out).mono ?_
                rintro e w5 ⟨rfl, rfl⟩
                go_wp2_with fail
                refine (awake_c wr).mono ?_
                rintro e w6 ⟨rfl, f⟩
                have F := Lib.hid (HF.out.then_ f fun _ _ h => h)
                clear f
                go_wp2_with fail
                go_ret
                exact ⟨rfl, F.out⟩

set_option maxRecDepth 40000 in
set_option maxHeartbeats 800000 in
theorem wireBack_out (w : World) (a : Option Addr) (cap : Nat) (l : List It) (hm : l.length ≤ maxLen) (hi : Items w a l) (hs : smallB l = false) :
    Calls Try.prog 3 #[.slice a l.length cap] w fun e w' => e = .returned (.bool true) ∧ Fr No w w' := by
  have CS := small_c a cap l w hm hi
  rw [hs] at CS
  have CS := Lib.hid CS
  unfold maxLen at hm
  generalize l.length = len at *
  clear hs hi
  go_enter Try.func3, Try.ntmps3
  go_wp2_with fail
  refine (show Calls _ _ _ _ _ from CS.out).mono ?_
  rintro e w1 ⟨rfl, f1⟩
  have F1 := Lib.hid f1
  clear f1 CS
  go_wp2_with fail
  refine (awake_c w1).mono ?_
  rintro e w6 ⟨rfl, f⟩
  have F := Lib.hid (F1.out.then_ f fun _ _ h => h)
  clear f
  go_wp2_with fail
  go_ret
  exact ⟨rfl, F.out⟩
theorem wireBack_walk (w : World) (a1 : Option Addr) (c1 : Nat) (l : List It) (hc1 : l.length ≤ c1) (hm1 : c1 ≤ maxLen) (rd1 : Items w a1 l) :
    Calls Try.prog 3 #[.slice a1 l.length c1] w fun e w' => e = .returned (.bool true) ∧ Below w.heap.size w w' := by
  refine Calls.mono (R := fun e w' => e = .returned (.bool true) ∧ Fr No w w') ?_ fun e w' ⟨he, hf⟩ => ⟨he, hf.below (Nat.le_refl _) fun k h => h.elim⟩
  cases hs : smallB l with
  | false => exact wireBack_out w a1 c1 l (by omega) rd1 hs
  | true => exact wireBack_go w a1 c1 l (by omega) hs rd1
end Go.Proofs.Ytpjfdhgkclnagaa
