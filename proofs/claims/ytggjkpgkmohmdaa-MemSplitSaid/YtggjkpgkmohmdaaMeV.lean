/-
  Layer 11: MemDraws.
-/
import Derived.Test.YtggjkpgkmohmdaaMeF
import Derived.Test.YtggjkpgkmohmdaaMeU
namespace Go.Proofs.Ytggjkpgkmohmdaa
set_option linter.unusedVariables false
open Go.RowKit

theorem Bts.here {w : World} {a : Option Addr} {l : List Bt} (h : Bts w (fun _ => True) a l) : Bts w (fun k => k < w.heap.size) a l := h.sub fun _ h _ => h
theorem foldM_len (L : List Bt) (h : small11 L = true) : (foldM L).es.length ≤ 2100 := by
  obtain ⟨h1, h2⟩ := small11_yes h
  have := (foldM_good L fun b hb => (h2 b hb).1).len
  omega
set_option maxRecDepth 20000 in
set_option maxHeartbeats 3200000 in
theorem mdraws_c {D : World → Nat → (Nat → Prop) → Mt → Prop} (H : MemOK D) (w : World) (a : Option Addr) (n cap : Nat) (L : List Bt) (da : Option Addr) (dn dc : Nat) (dl : List Int) (ga : Option Addr) (gn gc : Nat) (gl : List Int)
    (hn : L.length = n) (hm : n ≤ maxLen) (hb : Bts w (fun _ => True) a L) (hw : ∀ x ∈ L, BtWf x) (hd1 : dl.length = dn) (hd2 : dn ≤ dc) (hd3 : dc ≤ maxLen) (hdi : Ints w da dl) (hg1 : gl.length = gn) (hg2 : gn ≤ gc) (hg3 : gc ≤ maxLen) (hgi : Ints w ga gl) :
    Calls Try.prog 4 #[.slice a n cap, .slice da dn dc, .slice ga gn gc] w (Ask (.bool true) w) := by
  have HS := Lib.hid (small11_c a cap n L w _ hn hm hb hw)
  have HH := Lib.hid H
  have HFI : Hid (∀ w', Fr No w w' → small11 L = true → Calls Try.prog 10 #[.slice a n cap, .slice da dn dc] w' (FillOut D (foldM L) w')) := Lib.hid fun w' f hs =>
    fill_c H a n cap L da dn dc dl w' hn (by have := (small11_yes hs).1; omega) (hb.here.keep f (fun _ _ h => h) |>.sub fun k h _ => h) hw (fun x hx => ((small11_yes hs).2 x hx).1) hd1 hd2 hd3 (hdi.keep f)
  have HGI : Hid (∀ w', Fr No w w' → small11 L = true → Calls Try.prog 10 #[.slice a n cap, .slice ga gn gc] w' (FillOut D (foldM L) w')) := Lib.hid fun w' f hs =>
    fill_c H a n cap L ga gn gc gl w' hn (by have := (small11_yes hs).1; omega) (hb.here.keep f (fun _ _ h => h) |>.sub fun k h _ => h) hw (fun x hx => ((small11_yes hs).2 x hx).1) hg1 hg2 hg3 (hgi.keep f)
  have HLN := Lib.hid (foldM_len L)
  obtain ⟨m, hmm⟩ : ∃ m, foldM L = m := ⟨_, rfl⟩
  rw [hmm] at HFI HGI HLN
  unfold maxLen at hd3 hg3
  clear H hn hm hb hw hd1 hdi hg1 hgi hmm
  go_enter Try.func4, Try.ntmps4
  go_wp2_with fail
  refine (show Calls _ _ _ _ _ from HS.out).mono ?_
  rintro e w1 ⟨rfl, hf1⟩
  have HF1 := Lib.hid hf1
  clear hf1
  have AW := Lib.hid (fun w' => awake11_c HH.out w')
  cases hs : small11 L with
  | false =>
    go_wp2_with fail
    refine (show Calls _ _ _ _ _ from AW.out _).mono ?_
    rintro e w2 ⟨rfl, hf2⟩
    have HF2 := Lib.hid (HF1.out.trans hf2)
    clear hf2
    go_wp2_with fail
    go_ret
    exact ⟨rfl, HF2.out⟩
  | true =>
    have HC1 := Lib.hid (HFI.out w1 HF1.out hs)
    have HLEN := Lib.hid (HLN.out hs)
    have HSS := Lib.hid hs
    clear hs
    by_cases h1 : (100 : Int) < (dn : Int)
    · go_wp2_with fail
      refine (show Calls _ _ _ _ _ from AW.out _).mono ?_
      rintro e w2 ⟨rfl, hf2⟩
      have HF2 := Lib.hid (HF1.out.trans hf2)
      clear hf2
      go_wp2_with fail
      go_ret
      exact ⟨rfl, HF2.out⟩
    · by_cases h2 : (100 : Int) < (gn : Int)
      · go_wp2_with fail
        refine (show Calls _ _ _ _ _ from AW.out _).mono ?_
        rintro e w2 ⟨rfl, hf2⟩
        have HF2 := Lib.hid (HF1.out.trans hf2)
        clear hf2
        go_wp2_with fail
        go_ret
        exact ⟨rfl, HF2.out⟩
      · go_wp2_with fail
        refine (show Calls _ _ _ _ _ from HC1.out).mono ?_
        rintro e w2 ⟨t, F, xa, xc, rfl, hD, hF, _, _, _, hf2⟩
        have HF2 := Lib.hid (HF1.out.trans hf2)
        have HD2 := Lib.hid hD
        have HC2 := Lib.hid (HGI.out w2 HF2.out HSS.out)
        clear hD hF hf2 HC1
        go_wp2_with fail
        refine (show Calls _ _ _ _ _ from HC2.out).mono ?_
        rintro e w3 ⟨t', F', xa', xc', rfl, hD', hF', _, _, _, hf3⟩
        have HF3 := Lib.hid (HF2.out.trans hf3)
        have HD3 := Lib.hid (HH.out.keep HD2.out hf3 (fun _ _ h => h))
        have HD3' := Lib.hid hD'
        have HC3 := Lib.hid (HH.out.entries w3 t F m HD3.out (by have := HLEN.out; omega))
        clear hD' hF' hf3 HC2
        go_wp2_with fail
        refine (show Calls _ _ _ _ _ from HC3.out).mono ?_
        rintro e w4 ⟨v4, rfl, hr4, hf4⟩
        obtain ⟨ea, ec, rfl, k1, k2, hents⟩ := hr4.ents
        have HE4 := Lib.hid hents
        have HF4 := Lib.hid (HF3.out.trans hf4)
        have HC4 := Lib.hid (HH.out.entries w4 t' F' m (HH.out.keep HD3'.out hf4 (fun _ _ h => h)) (by have := HLEN.out; omega))
        clear hr4 hf4 hents HC3
        go_wp2_with fail
        refine (show Calls _ _ _ _ _ from HC4.out).mono ?_
        rintro e w5 ⟨v5, rfl, hr5, hf5⟩
        obtain ⟨fa, fc, rfl, k3, k4, hents⟩ := hr5.ents
        have HE5 := Lib.hid hents
        have HE4 := Lib.hid (HE4.out.keep hf5 (fun _ _ h => h))
        have HF5 := Lib.hid (HF4.out.trans hf5)
        obtain ⟨es, hes⟩ : ∃ es, m.es = es := ⟨_, rfl⟩
        rw [hes] at HE4 HE5 HLEN k1 k3 ⊢
        obtain ⟨k, hk⟩ : ∃ k, es.length = k := ⟨_, rfl⟩
        rw [hk] at HLEN k1 k3 ⊢
        have HK := Lib.hid hk
        have hk21 := HLEN.out
        have dk : ((k : Int) != (k : Int)) = false := by simp
        clear hr5 hf5 hents HC4 hes hk
        go_wp2_with fail
        go_loopw [61] (fun i wr => ∃ j : Nat, i = .int .i64 (j : Int) ∧ j ≤ k ∧ Fr No w5 wr) (fun i _ => k - (intOf i).toNat)
        case atStart => exact ⟨0, rfl, Nat.zero_le _, Fr.refl _ _⟩
        case round =>
          obtain ⟨j, rfl, hj, hfr⟩ := hrel
          have HFR := Lib.hid hfr
          by_cases hlt : j < k
          · have hjl : j < es.length := by rw [HK.out]; exact hlt
            obtain ⟨b1, o1, _, rfl, hxs1⟩ := HE4.out (by omega)
            obtain ⟨b2, o2, _, rfl, hxs2⟩ := HE5.out (by omega)
            obtain ⟨x0, x1, x2, x3⟩ := (hxs1 j hjl).keep hfr (fun h => h)
            obtain ⟨y0, y1, y2, y3⟩ := (hxs2 j hjl).keep hfr (fun h => h)
            obtain ⟨x, hx⟩ : ∃ x, es.getD j ent0 = x := ⟨_, rfl⟩
            rw [hx] at x0 x1 x2 x3 y0 y1 y2 y3
            have e0 : (x.u.toList == x.u.toList) = true := beq_self_eq_true _
            have e1 : (x.q == x.q) = true := beq_self_eq_true _
            have e2 : (x.k == x.k) = true := beq_self_eq_true _
            have e3 : (x.val.toList == x.val.toList) = true := beq_self_eq_true _
            clear hfr hxs1 hxs2 hx
            go_wp2_with fail
            go_region
            go_wp2_with fail
            go_roundw
            case rel => exact ⟨j + 1, by simp, by omega, HFR.out.drew⟩
            case measure => simp [intOf]; omega
          · clear hfr
            go_wp2_with fail
            refine (show Calls _ _ _ _ _ from AW.out _).mono ?_
            rintro e w6 ⟨rfl, hf6⟩
            have HF6 := Lib.hid (HF5.out.trans (HFR.out.trans hf6))
            clear hf6
            go_wp2_with fail
            go_ret
            exact ⟨rfl, HF6.out⟩
theorem memDraws_walk {D : World → Nat → (Nat → Prop) → Mt → Prop} (H : MemOK D) (w : World) (a : Option Addr) (cap : Nat) (L : List Bt) (hc : L.length ≤ cap) (hm : cap ≤ maxLen) (hb : Bts w (fun _ => True) a L) (hw : ∀ x ∈ L, BtWf x) (da : Option Addr) (dc : Nat) (dl : List Int) (hd2 : dl.length ≤ dc) (hd3 : dc ≤ maxLen) (hdi : Ints w da dl)
    (ga : Option Addr) (gc : Nat) (gl : List Int) (hg2 : gl.length ≤ gc) (hg3 : gc ≤ maxLen) (hgi : Ints w ga gl) :
    Calls Try.prog 4 #[.slice a L.length cap, .slice da dl.length dc, .slice ga gl.length gc] w fun e w' => e = .returned (.bool true) ∧ Below w.heap.size w w' :=
  (mdraws_c H w a _ cap L da _ dc dl ga _ gc gl rfl (Nat.le_trans hc hm) hb hw rfl hd2 hd3 hdi rfl hg2 hg3 hgi).mono fun _ _ h => ⟨h.1, h.2.below (Nat.le_refl _) (fun _ h => absurd h (fun h => h))⟩
end Go.Proofs.Ytggjkpgkmohmdaa
