/-
  Layer 11: MemUsers.
-/
import Derived.Test.YtggjkpgkmohmdaaMeV
import Derived.Test.YtggjkpgkmohmdaaMeQ
import Derived.Test.YtggjkpgkmohmdaaMeP
import Derived.Test.YtggjkpgkmohmdaaIkBd
namespace Go.Proofs.Ytggjkpgkmohmdaa
set_option linter.unusedVariables false
open Go.RowKit

/-- TEXTS that are read. -/
def StrIn (w : World) (a : Option Addr) (l : List ByteArray) : Prop := 0 < l.length → ∃ b, a = some ⟨b, 0, none⟩ ∧ ∀ i, i < l.length → w.cell? ⟨b, i, none⟩ = some (.string (l.getD i ByteArray.empty))
theorem StrIn.keep {w w' : World} {a : Option Addr} {l : List ByteArray} (h : StrIn w a l) (f : Fr No w w') : StrIn w' a l := fun hl => by
  obtain ⟨b, ha, hc⟩ := h hl
  exact ⟨b, ha, fun i hi => f.cell (hc i hi) (fun h => h)⟩
theorem RowG.strs {w : World} {S : Nat → Prop} {e : TypeId} {v : Value} {l : List ByteArray} (h : RowG w S e 1 v l.length (strsC l)) : ∃ a cap, v = .slice a l.length cap ∧ l.length ≤ cap ∧ cap ≤ maxLen ∧ StrIn w a l := by
  obtain ⟨a, cap, rfl, h1, h2, _, h3⟩ := h.form
  refine ⟨a, cap, rfl, h1, h2, fun hl => ?_⟩
  obtain ⟨b, _, rfl, hc⟩ := h3 hl
  refine ⟨b, rfl, fun i hi => (hc i (by omega)).1.trans ?_⟩
  simp [strsC, List.getD, hi]
theorem usersE_user {l : List Ent} {at_ : Int} {n : Nat} {u : ByteArray} (h : u ∈ usersE l at_ n) (hn : n ≤ l.length) : ∃ x ∈ l, x.u = u := by
  rw [usersE_mem] at h
  obtain ⟨j, h1, h2, h3, h4⟩ := h
  exact ⟨_, getD_memE l j (by omega), h4⟩
theorem getD_ba (l : List ByteArray) (i : Nat) (h : i < l.length) : l.getD i ByteArray.empty = l[i] := by
  rw [List.getD_eq_getElem?_getD, List.getElem?_eq_getElem h]
  rfl
/-- Does a text stand among the first n? -/
def amongB (l : List ByteArray) (u : ByteArray) (n : Nat) : Bool := (l.take n).any fun v => decide (v = u)
theorem amongB_succ (l : List ByteArray) (u : ByteArray) (n : Nat) (h : n < l.length) : amongB l u (n + 1) = (amongB l u n || decide (l.getD n ByteArray.empty = u)) := by
  unfold amongB
  rw [List.take_add_one, List.getElem?_eq_getElem h, getD_ba l n h, Option.toList_some, List.any_append]
  simp only [List.any_cons, List.any_nil, Bool.or_false]
theorem amongB_all (l : List ByteArray) (u : ByteArray) : amongB l u l.length = true ↔ u ∈ l := by
  unfold amongB
  rw [List.take_length, List.any_eq_true]
  constructor
  · rintro ⟨x, hx, hc⟩
    have : x = u := by simpa using hc
    exact this ▸ hx
  · exact fun h => ⟨u, h, by simp⟩
set_option maxRecDepth 20000 in
set_option maxHeartbeats 3200000 in
theorem musers_c {D : World → Nat → (Nat → Prop) → Mt → Prop} (H : MemOK D) (w : World) (a : Option Addr) (n cap : Nat) (L : List Bt) (at_ : Int)
    (hn : L.length = n) (hm : n ≤ maxLen) (hb : Bts w (fun _ => True) a L) (hw : ∀ x ∈ L, BtWf x) (hat : (Lit.int .i64 at_).wf = true) :
    Calls Try.prog 6 #[.slice a n cap, .int .i64 at_] w (Ask (.bool true) w) := by
  have HS := Lib.hid (small11_c a cap n L w _ hn hm hb hw)
  have HH := Lib.hid H
  have HAT := Lib.hid hat
  have HFI : Hid (∀ w', Fr No w w' → small11 L = true → Calls Try.prog 10 #[.slice a n cap, .slice none 0 0] w' (FillOut D (foldM L) w')) := Lib.hid fun w' f hs =>
    fill_c H a n cap L none 0 0 [] w' hn (by have := (small11_yes hs).1; omega) (hb.here.keep f (fun _ _ h => h) |>.sub fun k h _ => h) hw (fun x hx => ((small11_yes hs).2 x hx).1) rfl (Nat.le_refl _) (Nat.zero_le _) (fun h => absurd h (by simp))
  have HLN := Lib.hid (foldM_len L)
  have HGD : Hid (small11 L = true → ∀ x ∈ (foldM L).es, EntGood x) := Lib.hid fun hs => (foldM_good L fun b hb => ((small11_yes hs).2 b hb).1).ent
  have HSR := Lib.hid (foldM_srt L)
  obtain ⟨m, hmm⟩ : ∃ m, foldM L = m := ⟨_, rfl⟩
  rw [hmm] at HFI HLN HGD HSR
  clear H hn hm hb hw hmm hat
  go_enter Try.func6, Try.ntmps6
  go_wp2_with fail
  refine (show Calls _ _ _ _ _ from HS.out).mono ?_
  rintro e w1 ⟨rfl, hf1⟩
  have HF1 := Lib.hid hf1
  clear hf1
  have AW := Lib.hid (fun w' => awake11_c HH.out w')
  cases hs : small11 L with
  | false =>
    go_wp2_with fail
    refine (show Calls _ _ _ _ _ from AW.out _).mono ?_
    rintro e w2 ⟨rfl, hf2⟩
    have HF2 := Lib.hid (HF1.out.trans hf2)
    clear hf2
    go_wp2_with fail
    go_ret
    exact ⟨rfl, HF2.out⟩
  | true =>
    have HC1 := Lib.hid (HFI.out w1 HF1.out hs)
    have HLEN := Lib.hid (HLN.out hs)
    have HGD := Lib.hid (HGD.out hs)
    clear hs
    go_wp2_with fail
    refine (show Calls _ _ _ _ _ from HC1.out).mono ?_
    rintro e w2 ⟨t, F, xa, xc, rfl, hD, hF, hE, hc1, hc2, hf2⟩
    have HF2 := Lib.hid (HF1.out.trans hf2)
    have HD2 := Lib.hid hD
    have HE2 := Lib.hid hE
    have HC2 := Lib.hid (HH.out.users w2 t F m at_ hD (by have := HLEN.out; omega) HAT.out)
    clear hD hF hE hf2 HC1 hc2 hc1
    go_wp2_with fail
    refine (show Calls _ _ _ _ _ from HC2.out).mono ?_
    rintro e w3 ⟨v3, rfl, hr3, hf3⟩
    obtain ⟨ua, uc, rfl, k1, k2, hst⟩ := hr3.strs
    have HF3 := Lib.hid (HF2.out.trans hf3)
    have HD3 := Lib.hid (HH.out.keep HD2.out hf3 (fun _ _ h => h))
    have HE3 := Lib.hid (HE2.out.keep hf3 (fun _ _ h => h))
    have HST := Lib.hid hst
    have HRISE := Lib.hid (usersE_rise HSR.out.srt at_ m.es.length (Nat.le_refl _))
    have HLE := Lib.hid (usersE_le m.es at_ m.es.length)
    have HGET := Lib.hid (fun u => usersE_get HSR.out.srt u at_)
    have HUS : Hid (∀ u ∈ usersE m.es at_ m.es.length, u.size ≤ maxLen) := Lib.hid fun u hu => by
      obtain ⟨x, hx, rfl⟩ := usersE_user hu (Nat.le_refl _)
      exact (HGD.out x hx).wf.1
    have HLC := Lib.hid (fun w' (f : Fr No w3 w') => HH.out.len w' t F m (HH.out.keep HD3.out f (fun _ _ h => h)))
    have HGC := Lib.hid (fun w' (f : Fr No w3 w') (u : ByteArray) (hu : u.size ≤ maxLen) => HH.out.get w' t F m u at_ (HH.out.keep HD3.out f (fun _ _ h => h)) (by have := HLEN.out; omega) hu HAT.out)
    obtain ⟨us, hus⟩ : ∃ us, usersE m.es at_ m.es.length = us := ⟨_, rfl⟩
    rw [hus] at HST HRISE HLE HGET HUS k1 ⊢
    obtain ⟨k, hk⟩ : ∃ k, us.length = k := ⟨_, rfl⟩
    have HK := Lib.hid hk
    rw [hk] at HLE k1 ⊢
    obtain ⟨N, hN⟩ : ∃ N, m.es.length = N := ⟨_, rfl⟩
    have HN := Lib.hid hN
    rw [hN] at HLE HLEN HLC ⊢
    have hkN := HLE.out
    have hN21 := HLEN.out
    clear hr3 hst hf3 HC2 hus hk hN k2
    go_wp2_with fail
    go_loopw [35] (fun i wr => ∃ j : Nat, i = .int .i64 (j : Int) ∧ j ≤ k ∧ Fr No w3 wr) (fun i _ => k - (intOf i).toNat)
    case atStart => exact ⟨0, rfl, Nat.zero_le _, Fr.refl _ _⟩
    case round =>
      obtain ⟨j, rfl, hj, hfr⟩ := hrel
      have HFR := Lib.hid hfr
      by_cases hlt : j < k
      · have hjl : j < us.length := by rw [HK.out]; exact hlt
        obtain ⟨b, rfl, hc⟩ := HST.out (by omega)
        have c1 := hfr.cell (hc j hjl) (fun h => h)
        by_cases hj0 : j = 0
        · subst hj0
          clear hfr hc
          go_wp2_with fail
          go_roundw
          case rel => exact ⟨1, rfl, by omega, HFR.out⟩
          case measure => simp [intOf]; omega
        · obtain ⟨i, rfl⟩ : ∃ i, j = i + 1 := ⟨j - 1, by omega⟩
          have c0 := hfr.cell (hc i (by omega)) (fun h => h)
          have hlt2 : cmpB (us.getD i ByteArray.empty).data.toList (us.getD (i + 1) ByteArray.empty).data.toList < 0 := by
            rw [getD_ba us i (by omega), getD_ba us (i + 1) hjl]
            exact List.pairwise_iff_getElem.1 HRISE.out i (i + 1) (by omega) hjl (by omega)
          have HO := Lib.hid (fun w' => orderE_c (us.getD i ByteArray.empty) (us.getD (i + 1) ByteArray.empty) (HUS.out _ (by rw [getD_ba us i (by omega)]; exact List.getElem_mem _)) (HUS.out _ (by rw [getD_ba us (i + 1) hjl]; exact List.getElem_mem _)) w')
          obtain ⟨u0, hu0⟩ : ∃ u, us.getD i ByteArray.empty = u := ⟨_, rfl⟩
          obtain ⟨u1, hu1⟩ : ∃ u, us.getD (i + 1) ByteArray.empty = u := ⟨_, rfl⟩
          rw [hu0] at c0 HO hlt2
          rw [hu1] at c1 HO hlt2
          obtain ⟨cc, hcc⟩ : ∃ cc, Lib.compareBytes u0.data.toList u1.data.toList = cc := ⟨_, rfl⟩
          have hlt2 : cc < 0 := by rw [← hcc]; exact hlt2
          rw [hcc] at HO
          have e1 : ((i + 1 : Nat) : Int) - 1 = (i : Int) := by omega
          clear hfr hc hu0 hu1 hcc
          have d5 : decide (0 ≤ cc) = false := by rw [decide_eq_false_iff_not]; omega
          go_wp2_with fail
          refine (show Calls _ _ _ _ _ from HO.out _).mono ?_
          rintro e w5 ⟨rfl, hf5⟩
          have HF5 := Lib.hid (HFR.out.trans hf5)
          clear hf5
          go_wp2_with fail
          go_roundw
          case rel => exact ⟨i + 2, by simp; omega, by omega, HF5.out⟩
          case measure => simp [intOf]; omega
      · clear hfr
        go_wp2_with fail
        go_loopw [55] (fun i wr => ∃ j : Nat, i = .int .i64 (j : Int) ∧ j ≤ N ∧ Fr No w3 wr) (fun i _ => N - (intOf i).toNat)
        case atStart => exact ⟨0, rfl, Nat.zero_le _, HFR.out⟩
        case round =>
          obtain ⟨j2, rfl, hj2, hfr⟩ := hrel
          have HFR2 := Lib.hid hfr
          by_cases hlt2 : j2 < N
          · have hjl : j2 < m.es.length := by rw [HN.out]; exact hlt2
            obtain ⟨b, o, _, rfl, hxs⟩ := HE3.out (by omega)
            have hy := (hxs j2 hjl).keep hfr (fun h => h)
            have hym := getD_memE m.es j2 hjl
            obtain ⟨y, hy0⟩ : ∃ y, m.es.getD j2 ent0 = y := ⟨_, rfl⟩
            rw [hy0] at hy hym
            have HYS := Lib.hid (HGD.out y hym).wf.1
            obtain ⟨c0, c1, c2, c3⟩ := hy
            obtain ⟨Wb, hWb, hfb, p0, p1, p2, p3⟩ : ∃ W, wr.alloc (.cells #[.string y.u, .int .i64 y.q, .int .i64 y.k, .string y.val] 41) = W ∧ Fr No wr W ∧ W.cell? ⟨wr.heap.size, 0, none⟩ = some (.string y.u) ∧ W.cell? ⟨wr.heap.size, 1, none⟩ = some (.int .i64 y.q) ∧ W.cell? ⟨wr.heap.size, 2, none⟩ = some (.int .i64 y.k) ∧ W.cell? ⟨wr.heap.size, 3, none⟩ = some (.string y.val) := by
              obtain ⟨W, h1, h2, h3⟩ := box_ent wr y 41
              exact ⟨W, h1, h2, h3.c0, h3.c1, h3.c2, h3.c3⟩
            have HWB := Lib.hid hWb
            have HFB := Lib.hid (hfr.trans hfb)
            have HG := Lib.hid (HGC.out Wb HFB.out y.u HYS.out)
            have HGE := Lib.hid (HGET.out y.u)
            obtain ⟨G, hG⟩ : ∃ G, getE m.es y.u at_ = G := ⟨_, rfl⟩
            have hGl := bestI_lt m.es y.u at_ m.es.length
            rw [show bestI m.es y.u at_ m.es.length = G from hG] at hGl
            rw [hG] at HG HGE
            have HGV : Hid (∀ j : Nat, G = (j : Int) → entAt m G = m.es.getD j ent0) := Lib.hid fun j hj => by
              rw [hj]
              unfold entAt
              rw [if_neg (by omega), Int.toNat_natCast]
            obtain ⟨x, hx⟩ : ∃ x, entAt m G = x := ⟨_, rfl⟩
            rw [hx] at HG HGV
            obtain ⟨T, hT⟩ : ∃ T, wr.heap.size = T := ⟨_, rfl⟩
            rw [hT] at p0 p1 p2 p3
            have HTT := Lib.hid hT
            clear hxs hym hfr hWb hfb hG hx hT hy0 p1 p2 p3
            go_wp2_with fail
            rw [HWB.out, HTT.out]
            refine (show Calls _ _ _ _ _ from HG.out).mono ?_
            rintro e w6 ⟨rfl, hf6⟩
            have p0 := hf6.cell p0 (fun h => h)
            obtain ⟨Wx, hWx, hfx, q0, q1, q2, q3⟩ : ∃ W, w6.alloc (.cells #[.string x.u, .int .i64 x.q, .int .i64 x.k, .string x.val] 39) = W ∧ Fr No w6 W ∧ W.cell? ⟨w6.heap.size, 0, none⟩ = some (.string x.u) ∧ W.cell? ⟨w6.heap.size, 1, none⟩ = some (.int .i64 x.q) ∧ W.cell? ⟨w6.heap.size, 2, none⟩ = some (.int .i64 x.k) ∧ W.cell? ⟨w6.heap.size, 3, none⟩ = some (.string x.val) := by
              obtain ⟨W, h1, h2, h3⟩ := box_ent w6 x 39
              exact ⟨W, h1, h2, h3.c0, h3.c1, h3.c2, h3.c3⟩
            have HWX := Lib.hid hWx
            have HFX := Lib.hid (HFB.out.trans (hf6.trans hfx))
            have p0 := hfx.cell p0 (fun h => h)
            obtain ⟨Tx, hTx⟩ : ∃ T, w6.heap.size = T := ⟨_, rfl⟩
            rw [hTx] at q0 q1 q2 q3
            have HTX := Lib.hid hTx
            clear hf6 hWx hfx hTx c0 c1 c2 c3 HG
            unfold entV
            go_wp2_with fail
            rw [HWX.out, HTX.out]
            go_loopw [15, 70] (fun vh i wr => ∃ j : Nat, vh = .bool (amongB us y.u j) ∧ i = .int .i64 (j : Int) ∧ j ≤ k ∧ Fr No Wx wr) (fun _ i _ => k - (intOf i).toNat)
            case atStart => exact ⟨0, rfl, rfl, Nat.zero_le _, Fr.refl _ _⟩
            case round =>
              obtain ⟨j3, rfl, rfl, hj3, hfr⟩ := hrel
              have HFR3 := Lib.hid hfr
              have p0 := hfr.cell p0 (fun h => h)
              by_cases hlt3 : j3 < k
              · have hjl3 : j3 < us.length := by rw [HK.out]; exact hlt3
                obtain ⟨b3, rfl, hc⟩ := HST.out (by omega)
                have c1 := (HFX.out.trans hfr).cell (hc j3 hjl3) (fun h => h)
                have HAS := Lib.hid (amongB_succ us y.u j3 hjl3)
                obtain ⟨u1, hu1⟩ : ∃ u, us.getD j3 ByteArray.empty = u := ⟨_, rfl⟩
                rw [hu1] at c1 HAS
                have d6 : (u1.toList == y.u.toList) = decide (u1 = y.u) := toList_eq_iff _ _
                cases hb3 : amongB us y.u j3 with
                | true =>
                  rw [hb3] at HAS
                  clear hfr hc hu1 hb3
                  go_wp2_with fail
                  go_roundw
                  case rel => exact ⟨j3 + 1, by rw [HAS.out]; rfl, by simp, by omega, HFR3.out⟩
                  case measure => simp [intOf]; omega
                | false =>
                  rw [hb3] at HAS
                  clear hfr hc hu1 hb3
                  go_wp2_with fail
                  go_roundw
                  case rel => exact ⟨j3 + 1, by rw [HAS.out]; simp, by simp, by omega, HFR3.out⟩
                  case measure => simp [intOf]; omega
              · have q2 := hfr.cell q2 (fun h => h)
                have HB : Hid (amongB us y.u j3 = true ↔ ∃ j, j < m.es.length ∧ G = (j : Int) ∧ (m.es.getD j ent0).k = 1) := Lib.hid (by
                  have e : j3 = us.length := by rw [HK.out]; omega
                  rw [e, amongB_all]
                  exact HGE.out)
                obtain ⟨bh, hbh⟩ : ∃ bh, amongB us y.u j3 = bh := ⟨_, rfl⟩
                rw [hbh] at HB ⊢
                clear hfr hbh p0
                by_cases hG0 : 0 ≤ G
                · have d7 : decide (0 ≤ G) = true := decide_eq_true hG0
                  have hbk : bh = (x.k == 1) := by
                    obtain ⟨g, hg⟩ : ∃ g : Nat, G = (g : Int) := ⟨G.toNat, by omega⟩
                    have hx := HGV.out g hg
                    cases hk1 : (x.k == 1) with
                    | true =>
                      refine HB.out.2 ⟨g, by omega, hg, ?_⟩
                      rw [← hx]
                      simpa using hk1
                    | false =>
                      cases bh with
                      | false => rfl
                      | true =>
                        obtain ⟨j', h1, h2, h3⟩ := HB.out.1 rfl
                        have : j' = g := by omega
                        rw [this, ← hx] at h3
                        rw [h3] at hk1
                        cases hk1
                  cases hk1 : (x.k == 1) with
                  | true =>
                    rw [hk1] at hbk
                    subst hbk
                    go_wp2_with fail
                    go_roundw
                    case rel => exact ⟨j2 + 1, by simp, by omega, HFX.out.trans HFR3.out⟩
                    case measure => simp [intOf]; omega
                  | false =>
                    rw [hk1] at hbk
                    subst hbk
                    go_wp2_with fail
                    go_roundw
                    case rel => exact ⟨j2 + 1, by simp, by omega, HFX.out.trans HFR3.out⟩
                    case measure => simp [intOf]; omega
                · have d7 : decide (0 ≤ G) = false := decide_eq_false hG0
                  have hbk : bh = false := by
                    cases bh with
                    | false => rfl
                    | true =>
                      obtain ⟨j', h1, h2, h3⟩ := HB.out.1 rfl
                      omega
                  subst hbk
                  go_wp2_with fail
                  go_roundw
                  case rel => exact ⟨j2 + 1, by simp, by omega, HFX.out.trans HFR3.out⟩
                  case measure => simp [intOf]; omega
          · have HLN2 := Lib.hid (HLC.out wr hfr)
            clear hfr
            go_wp2_with fail
            refine (show Calls _ _ _ _ _ from HLN2.out).mono ?_
            rintro e w8 ⟨rfl, hf8⟩
            have HF8 := Lib.hid (HF3.out.trans (HFR2.out.trans hf8))
            clear hf8
            go_wp2_with fail
            refine (show Calls _ _ _ _ _ from AW.out _).mono ?_
            rintro e w9 ⟨rfl, hf9⟩
            have HF9 := Lib.hid (HF8.out.trans hf9)
            clear hf9
            go_wp2_with fail
            go_ret
            exact ⟨rfl, HF9.out⟩
theorem memUsers_walk {D : World → Nat → (Nat → Prop) → Mt → Prop} (H : MemOK D) (w : World) (a : Option Addr) (cap : Nat) (L : List Bt) (hc : L.length ≤ cap) (hm : cap ≤ maxLen) (hb : Bts w (fun _ => True) a L) (hw : ∀ x ∈ L, BtWf x) (at_ : Int) (hat : (Lit.int .i64 at_).wf = true) :
    Calls Try.prog 6 #[.slice a L.length cap, .int .i64 at_] w fun e w' => e = .returned (.bool true) ∧ Below w.heap.size w w' :=
  (musers_c H w a _ cap L at_ rfl (Nat.le_trans hc hm) hb hw hat).mono fun _ _ h => ⟨h.1, h.2.below (Nat.le_refl _) (fun _ h => absurd h (fun h => h))⟩
end Go.Proofs.Ytggjkpgkmohmdaa
