/-
  Layer 13: the walk of TableParts.
-/
import Derived.Test.YtlobnbbndkhcbaaGreatDoorMg25
import Derived.Test.YtlobnbbndkhcbaaGreatDoorMg23
import Derived.Test.YtlobnbbndkhcbaaGreatDoorMxMemB
namespace Go.Proofs.YtlobnbbndkhcbaaGreatDoor
set_option linter.unusedVariables false
open Go.RowKit

/-- The parts: all, the first c, the rest. -/
def partL (l : List Ent) (c : Nat) (j : Nat) : List Ent := if j = 0 then l else if j = 1 then l.take c else l.drop c
/-- The array's elements, of which the first k are laid. -/
def pv (tt : Nat → Nat) (k j : Nat) : Value := if j < k then .pointer (some ⟨tt j, 0, none⟩) else .pointer none
theorem part_of {W : World} {S : Nat → Prop} {a : Option Addr} {n cap c : Nat} {l : List Ent} (hi : Ents W S a l) (hn : l.length = n) (hc : n ≤ cap) (hm : cap ≤ maxLen) (h60 : n ≤ 60) (hlo : LoE l) (hwf : ∀ x ∈ l, EntWf x) (h1 : 1 ≤ c) (h2 : c < n) (k : Nat) (hk : k < 3) :
    ∃ pa pn pc, #[Value.slice a n cap, Value.slice a c cap, Value.slice (cutE a c cap) (n - c) (cap - c)][k]? = some (.slice pa pn pc) ∧ Ents W S pa (partL l c k) ∧ (partL l c k).length = pn ∧ pn ≤ pc ∧ pc ≤ maxLen ∧ pn ≤ 60 ∧ LoE (partL l c k) ∧ (∀ x ∈ partL l c k, EntWf x) := by
  have : k = 0 ∨ k = 1 ∨ k = 2 := by omega
  rcases this with rfl | rfl | rfl
  · exact ⟨_, _, _, rfl, hi, hn, hc, hm, h60, hlo, hwf⟩
  · exact ⟨_, _, _, rfl, hi.take c, by show (l.take c).length = c; rw [List.length_take]; omega, by omega, hm, by omega, hlo.take c, fun x hx => hwf x (List.mem_of_mem_take hx)⟩
  · exact ⟨_, _, _, rfl, hi.drop c cap (by omega), by show (l.drop c).length = n - c; rw [List.length_drop, hn], by omega, by omega, by omega, hlo.drop c, fun x hx => hwf x (List.mem_of_mem_drop hx)⟩
theorem pv_put (tt : Nat → Nat) (t k : Nat) (hk : k < 3) : #[pv tt k 0, pv tt k 1, pv tt k 2].setIfInBounds k (.pointer (some ⟨t, 0, none⟩)) = #[pv (fun j => if j = k then t else tt j) (k + 1) 0, pv (fun j => if j = k then t else tt j) (k + 1) 1, pv (fun j => if j = k then t else tt j) (k + 1) 2] := by
  have : k = 0 ∨ k = 1 ∨ k = 2 := by omega
  rcases this with rfl | rfl | rfl <;> simp [pv]
theorem pv_at (tt : Nat → Nat) (k : Nat) (hk : k < 3) : #[pv tt k 0, pv tt k 1, pv tt k 2][k]? = some (.pointer none) := by
  have : k = 0 ∨ k = 1 ∨ k = 2 := by omega
  rcases this with rfl | rfl | rfl <;> simp [pv]
section
variable {TB : List Ent → Opt → List UInt8} {NB : List Ent → Opt → Nat} {Tb : World → Prop} {T : World → Nat → (Nat → Prop) → List Ent → Nat → Prop}
set_option maxRecDepth 20000 in
set_option maxHeartbeats 6400000 in
theorem parts13_c (H : TableOK TB NB Tb T) (w : World) (ht : Tb w) (S : Nat → Prop) (a : Option Addr) (n cap : Nat) (l : List Ent) (cut : Int) (u : ByteArray) (at_ : Int) (hn : l.length = n) (hc : n ≤ cap) (hm : cap ≤ maxLen) (hi : Ents w S a l) (hwf : ∀ x ∈ l, EntWf x) (hcw : (Lit.int .i64 cut).wf = true) (hu : u.size ≤ maxLen) (hat : (Lit.int .i64 at_).wf = true) :
    Calls Tryz.prog 7 #[.agg #[.slice a n cap, .int .i64 cut, .string u, .int .i64 at_]] w (PlainRet (.bool true) w) := by
  obtain ⟨W, hW⟩ : ∃ W, w.alloc (.cells #[.slice a n cap, .int .i64 cut, .string u, .int .i64 at_] 63) = W := ⟨_, rfl⟩
  have f0 : Fr No w W := by rw [← hW]; exact (Fr.refl No w).alloc _
  have a0 : At W w.heap.size 63 #[.slice a n cap, .int .i64 cut, .string u, .int .i64 at_] := by rw [← hW]; exact At.new _ _ _
  have hiW := hi.sub (T := fun k => k < w.heap.size) (fun k hk _ => hk)
  have HI := Lib.hid (hiW.keep f0 (fun _ _ h => h))
  have CS := Lib.hid (small13_c a n cap l 60 _ W hn (by omega) HI.out)
  have AW := Lib.hid (fun (w' : World) (f : Fr No W w') => awake13_c H.toTableCore w' (H.tabK ht (f0.trans f)))
  have hn' : n ≤ 9223372036854775807 := by unfold maxLen at hm; omega
  have hcc : cap ≤ 9223372036854775807 := by unfold maxLen at hm; omega
  have hus : u.size ≤ 9223372036854775807 := by unfold maxLen at hu; omega
  obtain ⟨B, hB⟩ : ∃ B, w.heap.size = B := ⟨_, rfl⟩
  rw [hB] at a0
  have HB := Lib.hid hB
  have HF0 := Lib.hid f0
  have HA0 := Lib.hid a0
  have b0 := a0.cell 0
  rw [← hW, ← hB] at b0
  have HW := Lib.hid hW
  have HN := Lib.hid hn
  clear hi f0 a0 hW hiW hB
  by_cases hs : Small13 l 60
  · have hs60 : n ≤ 60 := by have := hs.2; omega
    rw [decide_eq_true hs] at CS
    by_cases hbad : (200 : Int) < (u.size : Int) ∨ cut < 1 ∨ (n : Int) ≤ cut
    · go_enter Tryz.func7, Tryz.ntmps7
      go_wp2_with fail
      rw [HW.out, HB.out]
      refine (show Calls _ _ _ _ _ from CS.out).mono ?_
      rintro e1 w1 ⟨rfl, f1⟩
      have HA1 := Lib.hid (HA0.out.keep f1 (fun h => h))
      have b1 := HA1.out.cell 1
      have b2 := HA1.out.cell 2
      have HF1 := Lib.hid (HF0.out.trans f1)
      have HAW := Lib.hid (AW.out w1 f1)
      clear f1 CS AW b0
      by_cases h1 : (200 : Int) < (u.size : Int)
      · go_wp2_with fail
        refine (show Calls _ _ _ _ _ from HAW.out).mono ?_
        rintro e3 w3 ⟨rfl, f3⟩
        go_wp2_with fail
        go_ret
        exact ⟨rfl, HF1.out.trans f3⟩
      · by_cases h2 : cut < 1
        · go_wp2_with fail
          refine (show Calls _ _ _ _ _ from HAW.out).mono ?_
          rintro e3 w3 ⟨rfl, f3⟩
          go_wp2_with fail
          go_ret
          exact ⟨rfl, HF1.out.trans f3⟩
        · have h3 : (n : Int) ≤ cut := by omega
          clear hbad
          go_wp2_with fail
          refine (show Calls _ _ _ _ _ from HAW.out).mono ?_
          rintro e3 w3 ⟨rfl, f3⟩
          go_wp2_with fail
          go_ret
          exact ⟨rfl, HF1.out.trans f3⟩
    · obtain ⟨c, rfl⟩ : ∃ c : Nat, cut = (c : Int) := ⟨cut.toNat, by omega⟩
      have h1 : (u.size : Int) ≤ 200 := by omega
      have h2 : (1 : Int) ≤ (c : Int) := by omega
      have h3 : (c : Int) < (n : Int) := by omega
      have dn : decide (n ≤ c) = false := decide_eq_false (by omega)
      have dc : decide ((c : Int) < 1) = false := decide_eq_false (by omega)
      have du : decide (200 < (u.size : Int)) = false := decide_eq_false (by omega)
      have S1 := cutE_hi a n cap c (by omega)
      have S2 := cutE_lo a n cap c (by omega)
      have HLO := Lib.hid hs.1
      have HH := Lib.hid H
      have HT0 := Lib.hid ht
      have HWF := Lib.hid hwf
      clear hs H ht hwf hbad
      go_enter Tryz.func7, Tryz.ntmps7
      go_wp2_with fail
      rw [HW.out, HB.out]
      refine (show Calls _ _ _ _ _ from CS.out).mono ?_
      rintro e1 w1 ⟨rfl, f1⟩
      have HA1 := Lib.hid (HA0.out.keep f1 (fun h => h))
      have b1 := HA1.out.cell 1
      have b2 := HA1.out.cell 2
      have HF1 := Lib.hid f1
      obtain ⟨W2, hW2⟩ : ∃ W2, w1.alloc (.cells #[.pointer none, .pointer none, .pointer none] 64) = W2 := ⟨_, rfl⟩
      have f2 : Fr No w1 W2 := by rw [← hW2]; exact (Fr.refl _ _).alloc _
      have a2 : At W2 w1.heap.size 64 #[.pointer none, .pointer none, .pointer none] := by rw [← hW2]; exact At.new _ _ _
      obtain ⟨g, hg⟩ : ∃ g, w1.heap.size = g := ⟨_, rfl⟩
      rw [hg] at a2
      have HG := Lib.hid hg
      have HA2 := Lib.hid (HA1.out.keep f2 (fun h => h))
      have HF2 := Lib.hid (HF1.out.trans f2)
      have HP2 := Lib.hid a2
      have HW2 := Lib.hid hW2
      clear f1 CS b0 f2 a2 hg hW2
      go_wp2_with fail
      rw [HW2.out, HG.out]
      clear b1 b2
      have b1 := HA2.out.cell 1
      go_region
      obtain ⟨W3, hW3⟩ : ∃ W3, (W2.alloc (.cells #[.slice a n cap, .slice a c cap, .slice (cutE a c cap) (n - c) (cap - c)] 22)).drew = W3 := ⟨_, rfl⟩
      obtain ⟨q, hq⟩ : ∃ q, W2.heap.size = q := ⟨_, rfl⟩
      have f3 : Fr No W2 W3 := by rw [← hW3]; exact ((Fr.refl No W2).alloc _).drew
      have a3 : At W3 q 22 #[.slice a n cap, .slice a c cap, .slice (cutE a c cap) (n - c) (cap - c)] := by rw [← hW3, ← hq]; exact At.new W2 _ _
      rw [hW3, hq]
      have hgq : g ≠ q := by
        rw [← hq]
        exact Nat.ne_of_lt HP2.out.lt
      have HG2 : Hid (g < W3.heap.size) := Lib.hid (HP2.out.keep f3 (fun h => h)).lt
      have HWg : Hid (W.heap.size ≤ g) := Lib.hid (by rw [← HG.out]; exact HF1.out.size)
      have HBg : Hid (B ≠ g) := Lib.hid (by
        have := HA0.out.lt
        have := HWg.out
        omega)
      have HA3 := Lib.hid (HA2.out.keep f3 (fun h => h))
      have HF3 := Lib.hid (HF2.out.trans f3)
      have HP3 := Lib.hid (HP2.out.keep f3 (fun h => h))
      have HQ3 := Lib.hid a3
      have HPO := Lib.hid (fun k hk => part_of HI.out HN.out hc hm hs60 HLO.out HWF.out (c := c) (by omega) (by omega) k hk)
      clear b1 f3 a3 hq hW3 S1 S2
      go_wp2_with fail
      go_loopw [55] (fun i wr => ∃ (k : Nat) (tt : Nat → Nat) (FF : Nat → Nat → Prop) (cc : Nat → Nat), i = .int .i64 (k : Int) ∧ k ≤ 3 ∧ At wr g 64 #[pv tt k 0, pv tt k 1, pv tt k 2] ∧ (∀ j, j < k → T wr (tt j) (FF j) (partL l c j) (cc j) ∧ RightL (partL l c j) ∧ ∀ x, FF j x → W3.heap.size ≤ x) ∧ Fr (One g) W3 wr) (fun i _ => 3 - (intOf i).toNat)
      case atStart => exact ⟨0, fun _ => 0, fun _ _ => False, fun _ => 0, rfl, by omega, HP3.out, fun j h => absurd h (by omega), Fr.refl _ _⟩
      case round =>
        obtain ⟨k, tt, FF, cc, rfl, hk, hpt, htt, hfr⟩ := hrel
        have HPT := Lib.hid hpt
        have HTT := Lib.hid htt
        have HFR := Lib.hid hfr
        have HFW : Hid (Fr No W wr) := Lib.hid (HF3.out.then_ hfr (fun x hx h => by
          have h' : x = g := h
          have := HWg.out
          omega))
        clear hpt htt hfr
        by_cases hlt : k < 3
        · have hk3 : (k : Int) < 3 := by omega
          obtain ⟨pa, pn, pc, hv, g1, g2, g3, g4, g5, g6, g7⟩ := HPO.out k hlt
          have c0 := ((HQ3.out.keep HFR.out (fun h => hgq h.symm)).cell k).trans hv
          obtain ⟨P, hP⟩ : ∃ P, partL l c k = P := ⟨_, rfl⟩
          rw [hP] at g1 g2 g6 g7
          have CB : Hid (∀ w', Fr No W w' → Calls Tryz.prog 11 #[.slice pa pn pc, .agg #[.int .i64 40, .int .i64 4, .int .i64 10], .int .i64 1048576] w' (BuildT TB P plainO 1048576 w')) := Lib.hid fun w' f => HH.out.build w' _ pa pn pc P plainO 1048576 (HH.out.tabK HT0.out (HF0.out.trans f)) g2 g3 g4 g5 g6 (g1.keep f (fun _ _ h => h)) g7 ⟨rfl, rfl, rfl⟩ (by decide)
          have HBZ := Lib.hid (@buildTE_zero TB P plainO 1048576)
          obtain ⟨er, her⟩ : ∃ er, buildTE TB P plainO 1048576 = er := ⟨_, rfl⟩
          have HER := Lib.hid her
          have HPL := Lib.hid hP
          have HG6 := Lib.hid g6
          have HG2' := Lib.hid g2
          have hpn := g5
          clear her hP hv g1 g2 g3 g4 g5 g6 g7
          go_wp2_with fail
          refine (plain_c _).mono ?_
          rintro e4 w4 ⟨rfl, f4⟩
          have HF4 := Lib.hid f4
          have CB4 := Lib.hid (CB.out w4 (HFW.out.trans f4))
          clear f4 CB
          unfold optV plainO
          go_wp2_with fail
          refine (show Calls _ _ _ _ _ from CB4.out).mono ?_
          rintro e5 w5 ⟨v, rfl, hrow, f5⟩
          obtain ⟨va, vc, rfl, hvc, hvm, hin⟩ := hrow.form
          rw [HER.out] at hin ⊢
          rw [HER.out] at hvc
          have HF5 := Lib.hid (HF4.out.trans f5)
          clear f5 hrow CB4
          by_cases hez : er = 0
          · subst hez
            obtain ⟨k1, k2, k3⟩ := HBZ.out HER.out
            rw [if_pos rfl] at hin hvc ⊢
            obtain ⟨bn, hbn⟩ : ∃ bn, (TB P plainO).length = bn := ⟨_, rfl⟩
            have CO := Lib.hid (open13 HH.out.toTableCore w5 va bn vc P plainO (HH.out.tabK HT0.out (HF0.out.trans (HFW.out.trans HF5.out))) hbn (by rw [← hbn]; exact hvc) hvm HG6.out (by have := HG2'.out; omega) hin.rd k1 k2)
            have HRL := Lib.hid k2
            rw [hbn]
            clear hbn hin hvc hvm k1 k2 k3 HBZ HER
            go_wp2_with fail
            refine (show Calls _ _ _ _ _ from CO.out).mono ?_
            rintro e6 w6 ⟨t, F, rfl, hT, hnb1, hnb2, hF, f6⟩
            clear hnb1 hnb2
            have HF6 := Lib.hid (HF5.out.trans f6)
            have HP6 := Lib.hid (HPT.out.keep HF6.out (fun h => h))
            have h1 := (HP6.out.cell k).trans (pv_at tt k hlt)
            have h2 := HP6.out.frozen k
            have HS6 : Hid (W3.heap.size ≤ w5.heap.size) := Lib.hid (Nat.le_trans HFR.out.size HF5.out.size)
            have HFO : Hid (Fr (One g) w6 (w6.setCell ⟨g, k, none⟩ (.pointer (some ⟨t, 0, none⟩)))) := Lib.hid ((Fr.refl (One g) w6).setCell (p := ⟨g, k, none⟩) (fun _ => show One g g from rfl) _)
            have HTN := Lib.hid hT
            have HFN := Lib.hid hF
            clear hT hF f6 CO
            go_wp2_with fail
            go_roundw
            case rel =>
              refine ⟨k + 1, fun j => if j = k then t else tt j, fun j => if j = k then F else FF j, fun j => if j = k then NB P plainO else cc j, by simp, by omega, ?_, fun j hj => ?_, ?_⟩
              · rw [← pv_put tt t k hlt]
                exact HP6.out.set_ k _
              · by_cases hjk : j = k
                · subst hjk
                  simp only [if_true]
                  rw [HPL.out]
                  refine ⟨HH.out.keep HTN.out HFO.out (fun x hx h => ?_), HRL.out, fun x hx => Nat.le_trans HS6.out (HFN.out x hx)⟩
                  have h' : x = g := h
                  have := HFN.out x hx
                  have := HS6.out
                  have := HG2.out
                  omega
                · simp only [hjk, if_false]
                  obtain ⟨j1, j2, j3⟩ := HTT.out j (by omega)
                  refine ⟨HH.out.keep (HH.out.keep j1 HF6.out (fun _ _ h => h)) HFO.out (fun x hx h => ?_), j2, j3⟩
                  have h' : x = g := h
                  have := j3 x hx
                  have := HG2.out
                  omega
              · exact (HFR.out.then_ HF6.out (fun _ _ h => h.elim)).trans HFO.out
            case measure => simp [intOf]; omega
          · have HAW := Lib.hid (AW.out w5 (HFW.out.trans HF5.out))
            have dz : (er == 0) = false := by rw [beq_eq_false_iff_ne]; exact hez
            obtain ⟨vn, hvn⟩ : ∃ vn, (if er = 0 then TB P plainO else []).length = vn := ⟨_, rfl⟩
            rw [hvn]
            clear hin hvc hvm hez hvn
            go_wp2_with fail
            refine (show Calls _ _ _ _ _ from HAW.out).mono ?_
            rintro e7 w7 ⟨rfl, f7⟩
            go_wp2_with fail
            go_ret
            exact ⟨rfl, (HF0.out.trans (HFW.out.trans HF5.out)).trans f7⟩
        · have hk3 : k = 3 := by omega
          have dk3 : decide ((k : Int) < 3) = false := decide_eq_false (by omega)
          have dk3' : decide (k < 3) = false := decide_eq_false hlt
          obtain ⟨W4, rfl⟩ : ∃ W4, W4 = wr := ⟨_, rfl⟩
          obtain ⟨T0, _, _⟩ := HTT.out 0 (by omega)
          obtain ⟨T1, _, _⟩ := HTT.out 1 (by omega)
          obtain ⟨T2, _, _⟩ := HTT.out 2 (by omega)
          have hR0 := (HTT.out 0 (by omega)).2.1
          rw [show partL l c 0 = l from rfl] at T0 hR0
          rw [show partL l c 1 = l.take c from rfl] at T1
          rw [show partL l c 2 = l.drop c from rfl] at T2
          have HT0 := Lib.hid T0
          have HT1 := Lib.hid T1
          have HT2 := Lib.hid T2
          have HPG := Lib.hid (fun u at_ => parts_get hR0.srt c (by have := HN.out; omega) u at_)
          have HA4 := Lib.hid (HA3.out.keep HFR.out (fun h => HBg.out h))
          have hg4 : At W4 g 64 #[.pointer (some ⟨tt 0, 0, none⟩), .pointer (some ⟨tt 1, 0, none⟩), .pointer (some ⟨tt 2, 0, none⟩)] := by
            have := HPT.out
            rw [hk3] at this
            exact this
          have HG4 := Lib.hid hg4
          generalize tt 0 = t0 at *
          generalize tt 1 = t1 at *
          generalize tt 2 = t2 at *
          generalize FF 0 = F0 at *
          generalize FF 1 = F1 at *
          generalize FF 2 = F2 at *
          generalize cc 0 = n0 at *
          generalize cc 1 = n1 at *
          generalize cc 2 = n2 at *
          have b2 := HA4.out.cell 2
          have HR0 := Lib.hid (row_str W4 u)
          have HS0 := Lib.hid ((Fr.refl No W4).alloc (.cells #[.string u] 9))
          have HAW := Lib.hid (fun (w' : World) (f : Fr No W4 w') => AW.out w' (HFW.out.trans f))
          have HWW := Lib.hid (HF0.out.trans HFW.out)
          clear hk3 hk hlt T0 T1 T2 hR0 HTT hg4 HPT HFR HPO HA3 HF3 HP3 HQ3 HG2 AW
          go_wp2_with fail
          go_loopw [11, 89] (fun uv i wr => ∃ k : Nat, i = .int .i64 k ∧ k ≤ n ∧ RowG wr (Gr No W4 wr) 9 1 uv (k + 1) (strsC (u :: (l.take k).map Ent.u)) ∧ Fr No W4 wr) (fun _ i _ => n - (intOf i).toNat)
          case atStart => exact ⟨0, rfl, Nat.zero_le _, HR0.out, HS0.out⟩
          case round =>
            obtain ⟨k, rfl, hk, hrow, hfr⟩ := hrel
            obtain ⟨ua, uc, rfl, _, _, _, _⟩ := hrow.form
            have HR := Lib.hid hrow
            have HF := Lib.hid hfr
            clear hrow hfr
            by_cases hlt : k < n
            · have hkl : k < l.length := by rw [HN.out]; exact hlt
              obtain ⟨b, off, _, rfl, hx⟩ := HI.out (by omega)
              have hx := (hx k hkl).keep (HFW.out.trans HF.out) (fun h => h)
              have HTU := Lib.hid (take_us l k hkl)
              obtain ⟨x, hy⟩ : ∃ x, l.getD k ent0 = x := ⟨_, rfl⟩
              rw [hy] at hx HTU
              clear hy
              obtain ⟨c0, c1, c2, c3⟩ := hx
              obtain ⟨w1, hw1⟩ : ∃ w1, wr.alloc (.cells #[.string x.u, .int .i64 x.q, .int .i64 x.k, .string x.val] 49) = w1 := ⟨_, rfl⟩
              have hf1 : Fr No wr w1 := by rw [← hw1]; exact (Fr.refl _ _).alloc _
              have a1 : At w1 wr.heap.size 49 #[.string x.u, .int .i64 x.q, .int .i64 x.k, .string x.val] := by rw [← hw1]; exact At.new _ _ _
              have q0 := a1.cell 0
              obtain ⟨v', w', hrun, hrow', hfr', hfr2⟩ := push_strW W4 wr w1 _ (k + 1) _ x.u HR.out HF.out hf1 (by omega)
              have hsz : w1.heap.size = wr.heap.size + 1 := by rw [← hw1]; simp
              rw [hsz] at hrun
              rw [← hw1] at hrun q0
              have HRUN := Lib.hid hrun
              have HR2 := Lib.hid hrow'
              have HF2 := Lib.hid hfr2
              clear hrun hrow' hfr' hfr2 hf1 a1 hw1 hsz
              go_wp2_with (at_builtin; refine wpList_append_run rfl _ _ 53 rfl rfl rfl HRUN.out ?_)
              go_roundw
              case rel => exact ⟨k + 1, by simp, by omega, by rw [HTU.out]; exact HR2.out, HF2.out⟩
              case measure => simp [intOf]; omega
            · have hk' : k = n := by omega
              subst hk'
              have HUS : Hid ((u :: (l.take k).map Ent.u).length = k + 1) := Lib.hid (by simp [HN.out])
              have HU2 : Hid (∀ y ∈ (u :: (l.take k).map Ent.u), y.size ≤ 300) := Lib.hid (by
                intro y hy
                rcases List.mem_cons.1 hy with rfl | hy
                · omega
                · obtain ⟨x, hx, rfl⟩ := List.mem_map.1 hy
                  have := (HLO.out x (List.mem_of_mem_take hx)).1
                  omega)
              obtain ⟨us, hus⟩ : ∃ us, (u :: (l.take k).map Ent.u) = us := ⟨_, rfl⟩
              rw [hus] at HR HUS HU2
              have hr := HR.out
              rw [← HUS.out] at hr
              obtain ⟨sa, sc, hsv, s1, s2, hstr⟩ := hr.strs
              rw [HUS.out] at hsv s1
              cases hsv
              have HST := Lib.hid hstr
              have HF5 := Lib.hid HF.out
              clear hr hstr hus HR HF b2 HR0 HS0
              obtain ⟨W6, rfl⟩ : ∃ W6, W6 = wr := ⟨_, rfl⟩
              go_wp2_with fail
              go_loopw [102] (fun i wr => ∃ j : Nat, i = .int .i64 (j : Int) ∧ j ≤ k + 1 ∧ Fr No W6 wr) (fun i _ => k + 1 - (intOf i).toNat)
              case atStart => exact ⟨0, rfl, Nat.zero_le _, Fr.refl _ _⟩
              case round =>
                obtain ⟨j, rfl, hj, hfr⟩ := hrel
                have HFR := Lib.hid (HF5.out.trans hfr)
                have HFS := Lib.hid hfr
                clear hfr
                by_cases hlt : j < k + 1
                · obtain ⟨sb, rfl, hsx⟩ := HST.out (by have := HUS.out; omega)
                  have hx := HFS.out.cell (hsx j (by have := HUS.out; omega)) (fun h => h)
                  have HXS : Hid ((us.getD j ByteArray.empty).size ≤ 300) := Lib.hid (HU2.out _ (by
                    have hjl : j < us.length := by have := HUS.out; omega
                    rw [List.getD_eq_getElem?_getD, List.getElem?_eq_getElem hjl]
                    exact List.getElem_mem hjl))
                  obtain ⟨x, hxe⟩ : ∃ x, us.getD j ByteArray.empty = x := ⟨_, rfl⟩
                  rw [hxe] at hx HXS
                  clear hxe hsx
                  have hjn : (j : Int) < (k : Int) + 1 := by omega
                  have HAR := Lib.hid (HA4.out.keep HFR.out (fun h => h))
                  have HGR := Lib.hid (HG4.out.keep HFR.out (fun h => h))
                  have b3 := HAR.out.cell 3
                  have p0 := HGR.out.cell 0
                  have CG0 := Lib.hid (HH.out.get wr t0 F0 l n0 x at_ (HH.out.keep HT0.out HFR.out (fun _ _ h => h)) HXS.out hat)
                  have CG1 := Lib.hid (fun (w' : World) (f : Fr No W4 w') => HH.out.get w' t1 F1 (l.take c) n1 x at_ (HH.out.keep HT1.out f (fun _ _ h => h)) HXS.out hat)
                  have CG2 := Lib.hid (fun (w' : World) (f : Fr No W4 w') => HH.out.get w' t2 F2 (l.drop c) n2 x at_ (HH.out.keep HT2.out f (fun _ _ h => h)) HXS.out hat)
                  have HPX := Lib.hid (HPG.out x at_)
                  obtain ⟨y0, hy0⟩ : ∃ y, gotE l x at_ = y := ⟨_, rfl⟩
                  obtain ⟨y1, hy1⟩ : ∃ y, gotE (l.take c) x at_ = y := ⟨_, rfl⟩
                  obtain ⟨y2, hy2⟩ : ∃ y, gotE (l.drop c) x at_ = y := ⟨_, rfl⟩
                  rw [hy0, hy1, hy2] at HPX
                  rw [hy0] at CG0
                  rw [hy1] at CG1
                  rw [hy2] at CG2
                  clear hy0 hy1 hy2
                  generalize getE l x at_ = G0 at *
                  generalize getE (l.take c) x at_ = G1 at *
                  generalize getE (l.drop c) x at_ = G2 at *
                  unfold entV at CG0 CG1 CG2
                  go_wp2_with fail
                  refine (show Calls _ _ _ _ _ from CG0.out).mono ?_
                  rintro e7 w7 ⟨rfl, f7⟩
                  obtain ⟨w8, hw8⟩ : ∃ w8, w7.alloc (.cells #[.string y0.u, .int .i64 y0.q, .int .i64 y0.k, .string y0.val] 49) = w8 := ⟨_, rfl⟩
                  have f8 : Fr No wr w8 := by rw [← hw8]; exact f7.alloc _
                  have a8 : At w8 w7.heap.size 49 #[.string y0.u, .int .i64 y0.q, .int .i64 y0.k, .string y0.val] := by rw [← hw8]; exact At.new _ _ _
                  obtain ⟨ga, hga⟩ : ∃ ga, w7.heap.size = ga := ⟨_, rfl⟩
                  rw [hga] at a8
                  have HA8 := Lib.hid a8
                  have HF8 := Lib.hid (HFR.out.trans f8)
                  have HS8 := Lib.hid (HFS.out.trans f8)
                  have HB8 := Lib.hid (HAR.out.keep f8 (fun h => h))
                  have HG8 := Lib.hid (HGR.out.keep f8 (fun h => h))
                  have b3 := HB8.out.cell 3
                  have p1 := HG8.out.cell 1
                  rw [← hw8] at b3 p1
                  have C8 := Lib.hid (CG1.out w8 HF8.out)
                  have HW8 := Lib.hid hw8
                  have HN8 := Lib.hid hga
                  clear f7 f8 a8 hw8 hga CG0 hx HAR HGR p0
                  go_wp2_with fail
                  rw [HW8.out, HN8.out]
                  refine (show Calls _ _ _ _ _ from C8.out).mono ?_
                  rintro e9 w9 ⟨rfl, f9⟩
                  obtain ⟨w10, hw10⟩ : ∃ w10, w9.alloc (.cells #[.string y1.u, .int .i64 y1.q, .int .i64 y1.k, .string y1.val] 49) = w10 := ⟨_, rfl⟩
                  have f10 : Fr No w8 w10 := by rw [← hw10]; exact f9.alloc _
                  have a10 : At w10 w9.heap.size 49 #[.string y1.u, .int .i64 y1.q, .int .i64 y1.k, .string y1.val] := by rw [← hw10]; exact At.new _ _ _
                  have HNE : Hid (ga ≠ w9.heap.size) := Lib.hid (Nat.ne_of_lt (Nat.lt_of_lt_of_le HA8.out.lt f9.size))
                  have HN9 : Hid (W6.heap.size ≤ w9.heap.size) := Lib.hid (Nat.le_trans HS8.out.size f9.size)
                  have HF10 := Lib.hid (HF8.out.trans f10)
                  have HS10 := Lib.hid (HS8.out.trans f10)
                  have HA10 := Lib.hid (HA8.out.keep f10 (fun h => h))
                  clear b3 p1 C8
                  by_cases hG1 : 0 ≤ G1
                  · obtain ⟨hG0, rfl⟩ := HPX.out.1 hG1
                    have dg0 : decide ((0 : Int) ≤ G0) = true := decide_eq_true hG0
                    have dg1 : decide ((0 : Int) ≤ G1) = true := decide_eq_true hG1
                    rw [dg0, dg1]
                    obtain ⟨z0, z1, z2, z3, _, _, _, _⟩ := HA10.out.row4
                    obtain ⟨v0, v1, v2, v3, _, _, _, _⟩ := a10.row4
                    rw [← hw10] at z0 z1 z2 z3 v0 v1 v2 v3
                    have d0 : (y0.u.toList == y0.u.toList) = true := beq_self_eq_true _
                    have d1 : (y0.q == y0.q) = true := beq_self_eq_true _
                    have d2 : (y0.k == y0.k) = true := beq_self_eq_true _
                    have d3 : (y0.val.toList == y0.val.toList) = true := beq_self_eq_true _
                    have HR10 : Hid (Fr No W6 (w9.alloc (.cells #[.string y0.u, .int .i64 y0.q, .int .i64 y0.k, .string y0.val] 49))) := Lib.hid (by rw [hw10]; exact HS10.out)
                    clear hG0 hG1 f9 f10 a10 hw10
                    go_wp2_with fail
                    go_roundw
                    case rel => exact ⟨j + 1, by simp, by omega, HR10.out⟩
                    case measure => simp [intOf]; omega
                  · obtain ⟨hG, rfl⟩ := HPX.out.2 (by omega)
                    have dg1 : decide ((0 : Int) ≤ G1) = false := decide_eq_false hG1
                    have dgg : decide ((0 : Int) ≤ G0) = decide ((0 : Int) ≤ G2) := by rw [decide_eq_decide]; exact hG
                    obtain ⟨ok, hok⟩ : ∃ ok, decide ((0 : Int) ≤ G2) = ok := ⟨_, rfl⟩
                    rw [dgg, hok, dg1]
                    obtain ⟨gb, hgb⟩ : ∃ gb, w9.heap.size = gb := ⟨_, rfl⟩
                    rw [hgb] at a10 HNE
                    have HV10 := Lib.hid a10
                    have b3 := (HB8.out.keep f10 (fun h => h)).cell 3
                    have p2 := (HG8.out.keep f10 (fun h => h)).cell 2
                    rw [← hw10] at b3 p2
                    have C10 := Lib.hid (CG2.out w10 HF10.out)
                    rw [hok] at C10
                    have HW10 := Lib.hid hw10
                    have HN10 := Lib.hid hgb
                    clear hG hG1 f9 f10 a10 hw10 hgb dgg hok
                    go_wp2_with fail
                    rw [HW10.out, HN10.out]
                    refine (show Calls _ _ _ _ _ from C10.out).mono ?_
                    rintro e11 w11 ⟨rfl, f11⟩
                    have HA11 := Lib.hid (HA10.out.keep f11 (fun h => h))
                    have HV11 := Lib.hid (HV10.out.keep f11 (fun h => h))
                    have HS11 := Lib.hid (HS10.out.trans f11)
                    have HGB : Hid (W6.heap.size ≤ gb) := Lib.hid (by rw [← HN10.out]; exact HN9.out)
                    obtain ⟨v0, v1, v2, v3, z0, z1, z2, z3⟩ := HV11.out.row4
                    have HST2 := Lib.hid (show At ((((w11.setCell ⟨gb, 0, none⟩ (.string y0.u)).setCell ⟨gb, 1, none⟩ (.int .i64 y0.q)).setCell ⟨gb, 2, none⟩ (.int .i64 y0.k)).setCell ⟨gb, 3, none⟩ (.string y0.val)) gb 49 #[.string y0.u, .int .i64 y0.q, .int .i64 y0.k, .string y0.val] from HV11.out.put4)
                    have HFO := Lib.hid (show Fr (One gb) w11 ((((w11.setCell ⟨gb, 0, none⟩ (.string y0.u)).setCell ⟨gb, 1, none⟩ (.int .i64 y0.q)).setCell ⟨gb, 2, none⟩ (.int .i64 y0.k)).setCell ⟨gb, 3, none⟩ (.string y0.val)) from
                      ((((Fr.refl (One gb) w11).setCell (p := ⟨gb, 0, none⟩) (fun _ => show One gb gb from rfl) _).setCell (p := ⟨gb, 1, none⟩) (fun _ => show One gb gb from rfl) _).setCell (p := ⟨gb, 2, none⟩) (fun _ => show One gb gb from rfl) _).setCell (p := ⟨gb, 3, none⟩) (fun _ => show One gb gb from rfl) _)
                    have HFQ := Lib.hid (put4_fr (x := .string y0.u) (y := .int .i64 y0.q) (z := .int .i64 y0.k) (v := .string y0.val) HS11.out HGB.out)
                    have HZ2 := Lib.hid (HA11.out.keep HFO.out (fun h => HNE.out h))
                    obtain ⟨s0, s1', s2', s3, _, _, _, _⟩ := HST2.out.row4
                    obtain ⟨t0', t1', t2', t3, _, _, _, _⟩ := HZ2.out.row4
                    have d0 : (y0.u.toList == y0.u.toList) = true := beq_self_eq_true _
                    have d1 : (y0.q == y0.q) = true := beq_self_eq_true _
                    have d2 : (y0.k == y0.k) = true := beq_self_eq_true _
                    have d3 : (y0.val.toList == y0.val.toList) = true := beq_self_eq_true _
                    clear f11 C10 b3 p2
                    go_wp2_with fail
                    go_roundw
                    case rel => exact ⟨j + 1, by simp, by omega, HFQ.out⟩
                    case measure => simp [intOf]; omega
                · have p0 := (HG4.out.keep HFR.out (fun h => h)).cell 0
                  have p1 := (HG4.out.keep HFR.out (fun h => h)).cell 1
                  have p2 := (HG4.out.keep HFR.out (fun h => h)).cell 2
                  have hl1 : (l.take c).length = c := by rw [List.length_take]; omega
                  obtain ⟨m2, hm2⟩ : ∃ m2, (l.drop c).length = m2 := ⟨_, rfl⟩
                  have hm3 : c + m2 = k := by rw [← hm2, List.length_drop]; omega
                  have HL0 := Lib.hid (fun (w' : World) (f : Fr No W4 w') => HH.out.len w' t0 F0 l n0 (HH.out.keep HT0.out f (fun _ _ h => h)))
                  have HL1 := Lib.hid (fun (w' : World) (f : Fr No W4 w') => HH.out.len w' t1 F1 (l.take c) n1 (HH.out.keep HT1.out f (fun _ _ h => h)))
                  have HL2 := Lib.hid (fun (w' : World) (f : Fr No W4 w') => HH.out.len w' t2 F2 (l.drop c) n2 (HH.out.keep HT2.out f (fun _ _ h => h)))
                  rw [HN.out] at HL0
                  rw [hl1] at HL1
                  rw [hm2] at HL2
                  have hfx := HFR.out.drew
                  have hm2b : (m2 : Int) ≤ 60 := by omega
                  have hcb : (c : Int) ≤ 60 := by omega
                  have hsum : (c : Int) + (m2 : Int) = (k : Int) := by omega
                  have hww : IntKind.i64.wrap ((c : Int) + (m2 : Int)) = (k : Int) := by
                    rw [hsum]
                    exact IntWalk.i64_in _ (by omega)
                  have dw : ((k : Int) == (k : Int)) = true := by simp
                  have hwk : IntKind.i64.wrap (k : Int) = (k : Int) := IntWalk.i64_in _ (by omega)
                  have hs2 : ((c : Int) + (m2 : Int) == (k : Int)) = true := by rw [hsum]; simp
                  have hs3 : decide ((c : Int) + (m2 : Int) = (k : Int)) = true := decide_eq_true hsum
                  have hs4 : (IntKind.i64.wrap ((c : Int) + (m2 : Int)) == (k : Int)) = true := by rw [hww]; simp
                  clear hm2 hl1
                  go_wp2_with fail
                  go_region_held3 (fun w' => w'.cell? ⟨g, 0, none⟩ = some (.pointer (some ⟨t0, 0, none⟩)) ∧ w'.cell? ⟨g, 1, none⟩ = some (.pointer (some ⟨t1, 0, none⟩)) ∧ w'.cell? ⟨g, 2, none⟩ = some (.pointer (some ⟨t2, 0, none⟩)) ∧ Fr No W4 w') (first | assumption | go_keep)
                    (first
                      | (go_at_call 21; first | (with_reducible refine (HL0.out _ hfx).mono ?_) | (with_reducible refine (HL1.out _ hfx).mono ?_) | (with_reducible refine (HL2.out _ hfx).mono ?_)
                         intro e6 w6 hret; obtain ⟨rfl, hf6⟩ := hret
                         have p0 := hf6.cell (p := ⟨g, 0, none⟩) p0 (fun h => h)
                         have p1 := hf6.cell (p := ⟨g, 1, none⟩) p1 (fun h => h)
                         have p2 := hf6.cell (p := ⟨g, 2, none⟩) p2 (fun h => h)
                         have hfx := hfx.trans hf6
                         clear hf6)
                      | (go_at_call 10; refine (HAW.out _ hfx).mono ?_; intro e6 w6 hret; obtain ⟨rfl, hf6⟩ := hret
                         have p0 := hf6.cell (p := ⟨g, 0, none⟩) p0 (fun h => h)
                         have p1 := hf6.cell (p := ⟨g, 1, none⟩) p1 (fun h => h)
                         have p2 := hf6.cell (p := ⟨g, 2, none⟩) p2 (fun h => h)
                         have hfx := hfx.trans hf6
                         clear hf6))
                  have HFX := Lib.hid hfx
                  clear hfx
                  go_wp2_with fail
                  go_ret
                  exact ⟨rfl, HWW.out.trans HFX.out⟩
  · rw [decide_eq_false hs] at CS
    go_enter Tryz.func7, Tryz.ntmps7
    go_wp2_with fail
    rw [HW.out, HB.out]
    refine (show Calls _ _ _ _ _ from CS.out).mono ?_
    rintro e1 w1 ⟨rfl, f1⟩
    have HF1 := Lib.hid (HF0.out.trans f1)
    have HAW := Lib.hid (AW.out w1 f1)
    clear f1 CS AW b0
    go_wp2_with fail
    refine (show Calls _ _ _ _ _ from HAW.out).mono ?_
    rintro e3 w3 ⟨rfl, f3⟩
    go_wp2_with fail
    go_ret
    exact ⟨rfl, HF1.out.trans f3⟩
end
end Go.Proofs.YtlobnbbndkhcbaaGreatDoor
