/-
  Layer 11: MemPlays.
-/
import Derived.Test.YtggjkpgkmohmdaaMeW
import Derived.Test.YtggjkpgkmohmdaaMemB
namespace Go.Proofs.Ytggjkpgkmohmdaa
set_option linter.unusedVariables false
open Go.RowKit

/-- What is got is told as the document says. -/
theorem same_any {m : Mt} {xa : Option Addr} {xc : Nat} {S : Nat → Prop} {w' : World} (l : List Ent) (N : Nat) (hN : l.length = N) (hm : N ≤ 900000) (hi : Ents w' S xa l) (u : ByteArray) (at_ G : Int) (hG : getE l u at_ = G) (x : Ent) (hx : entAt ⟨l, m.last⟩ G = x) (b : Bool) (hb : decide (0 ≤ G) = b) (w0 : World) (hw : w0 = w') :
    Calls Try.prog 14 #[.agg #[.string x.u, .int .i64 x.q, .int .i64 x.k, .string x.val], .bool b, .slice xa N xc, .int .i64 G] w0 (Ask (.bool true) w0) := by
  subst hw
  have hb1 := bestI_lt l u at_ l.length
  rw [show bestI l u at_ l.length = G from hG] at hb1
  by_cases h0 : 0 ≤ G
  · obtain ⟨g, rfl⟩ : ∃ g : Nat, G = (g : Int) := ⟨G.toNat, by omega⟩
    rw [decide_eq_true h0] at hb
    subst hb
    have hx' : l.getD g ent0 = x := by
      rw [← hx]
      unfold entAt
      rw [if_neg (by omega), Int.toNat_natCast]
    exact sameE_yes x xa xc N g l w0 S hN hm (by omega) hi hx'
  · obtain rfl : G = -1 := by omega
    rw [decide_eq_false h0] at hb
    subst hb
    have : x = ent0 := by rw [← hx]; rfl
    subst this
    exact sameE_none xa xc N w0
theorem held_alloc {w : World} {b1 c1 b2 c2 : Nat} {v1 v2 : Value} (o : Obj) (h : w.cell? ⟨b1, c1, none⟩ = some v1 ∧ w.cell? ⟨b2, c2, none⟩ = some v2) : (w.alloc o).cell? ⟨b1, c1, none⟩ = some v1 ∧ (w.alloc o).cell? ⟨b2, c2, none⟩ = some v2 :=
  ⟨((Fr.refl No w).alloc o).cell h.1 (fun h => h), ((Fr.refl No w).alloc o).cell h.2 (fun h => h)⟩
theorem held_allocd {w : World} {b1 c1 b2 c2 : Nat} {v1 v2 : Value} (o : Obj) (h : w.drew.cell? ⟨b1, c1, none⟩ = some v1 ∧ w.drew.cell? ⟨b2, c2, none⟩ = some v2) : (w.alloc o).drew.cell? ⟨b1, c1, none⟩ = some v1 ∧ (w.alloc o).drew.cell? ⟨b2, c2, none⟩ = some v2 := held_alloc o h
theorem held_set4 {w : World} {b1 c1 b2 c2 T : Nat} {v1 v2 x y z v : Value} (h1 : b1 ≠ T) (h2 : b2 ≠ T) (h : w.cell? ⟨b1, c1, none⟩ = some v1 ∧ w.cell? ⟨b2, c2, none⟩ = some v2) :
    ((((w.setCell ⟨T, 0, none⟩ x).setCell ⟨T, 1, none⟩ y).setCell ⟨T, 2, none⟩ z).setCell ⟨T, 3, none⟩ v).cell? ⟨b1, c1, none⟩ = some v1 ∧ ((((w.setCell ⟨T, 0, none⟩ x).setCell ⟨T, 1, none⟩ y).setCell ⟨T, 2, none⟩ z).setCell ⟨T, 3, none⟩ v).cell? ⟨b2, c2, none⟩ = some v2 := by
  have f : Fr (One T) w ((((w.setCell ⟨T, 0, none⟩ x).setCell ⟨T, 1, none⟩ y).setCell ⟨T, 2, none⟩ z).setCell ⟨T, 3, none⟩ v) :=
    ((((Fr.refl (One T) w).setCell (p := ⟨T, 0, none⟩) (fun _ => show One T T from rfl) x).setCell (p := ⟨T, 1, none⟩) (fun _ => show One T T from rfl) y).setCell (p := ⟨T, 2, none⟩) (fun _ => show One T T from rfl) z).setCell (p := ⟨T, 3, none⟩) (fun _ => show One T T from rfl) v
  exact ⟨f.cell h.1 h1, f.cell h.2 h2⟩
theorem newbox {w6 w7 : World} (f : Fr No (w6.alloc (.cells #[.string ⟨#[]⟩, .int .i64 0, .int .i64 0, .string ⟨#[]⟩] 39)).drew w7) :
    At w7 w6.heap.size 39 #[.string ⟨#[]⟩, .int .i64 0, .int .i64 0, .string ⟨#[]⟩] :=
  ((At.new w6 39 _).keep (Fr.drew (Fr.refl No _)) (fun h => h)).keep f (fun h => h)
set_option maxRecDepth 20000 in
set_option maxHeartbeats 6400000 in
theorem mplays_c {D : World → Nat → (Nat → Prop) → Mt → Prop} (H : MemOK D) (w : World) (a : Option Addr) (n cap : Nat) (L : List Bt) (da : Option Addr) (dn dc : Nat) (dl : List Int) (us : ByteArray) (at_ : Int)
    (hn : L.length = n) (hm : n ≤ maxLen) (hb : Bts w (fun _ => True) a L) (hw : ∀ x ∈ L, BtWf x) (hd1 : dl.length = dn) (hd2 : dn ≤ dc) (hd3 : dc ≤ maxLen) (hdi : Ints w da dl) (hus : us.size ≤ maxLen) (hat : (Lit.int .i64 at_).wf = true) :
    Calls Try.prog 3 #[.agg #[.slice a n cap, .slice da dn dc, .string us, .int .i64 at_]] w (Ask (.bool true) w) := by
  obtain ⟨W, hW⟩ : ∃ W, w.alloc (.cells #[.slice a n cap, .slice da dn dc, .string us, .int .i64 at_] 25) = W := ⟨_, rfl⟩
  have hfW : Fr No w W := by rw [← hW]; exact (Fr.refl No w).alloc _
  have A0 : At W w.heap.size 25 #[.slice a n cap, .slice da dn dc, .string us, .int .i64 at_] := by rw [← hW]; exact At.new w _ _
  obtain ⟨B, hB⟩ : ∃ B, w.heap.size = B := ⟨_, rfl⟩
  rw [hB] at A0
  have HB := Lib.hid hB
  have HW := Lib.hid hW
  have HFW := Lib.hid hfW
  have HA0 := Lib.hid A0
  have HS := Lib.hid (small11_c a cap n L W _ hn hm (hb.keep hfW (fun _ _ h => h)) hw)
  have HH := Lib.hid H
  have HAT := Lib.hid hat
  have HUS := Lib.hid hus
  have HFI : Hid (∀ w', Fr No w w' → small11 L = true → Calls Try.prog 10 #[.slice a n cap, .slice da dn dc] w' (FillOut D (foldM L) w')) := Lib.hid fun w' f hs =>
    fill_c H a n cap L da dn dc dl w' hn (by have := (small11_yes hs).1; omega) (hb.here.keep f (fun _ _ h => h) |>.sub fun k h _ => h) hw (fun x hx => ((small11_yes hs).2 x hx).1) hd1 hd2 hd3 (hdi.keep f)
  have HLN := Lib.hid (foldM_len L)
  have HGD : Hid (small11 L = true → ∀ x ∈ (foldM L).es, EntGood x) := Lib.hid fun hs => (foldM_good L fun b hb => ((small11_yes hs).2 b hb).1).ent
  obtain ⟨m, hmm⟩ : ∃ m, foldM L = m := ⟨_, rfl⟩
  rw [hmm] at HFI HLN HGD
  unfold maxLen at hd3 hus
  have AW := Lib.hid (fun w' => awake11_c HH.out w')
  clear H hn hm hb hw hd1 hdi hmm hat A0 hW hfW hB
  go_enter Try.func3, Try.ntmps3
  go_wp2_with fail
  rw [HW.out, HB.out]
  refine (show Calls _ _ _ _ _ from HS.out).mono ?_
  rintro e w1 ⟨rfl, hf1⟩
  have HF1 := Lib.hid (HFW.out.trans hf1)
  have HA1 := Lib.hid (HA0.out.keep hf1 (fun h => h))
  obtain ⟨b0, b1, b2, b3⟩ : w1.cell? ⟨B, 0, none⟩ = some (.slice a n cap) ∧ w1.cell? ⟨B, 1, none⟩ = some (.slice da dn dc) ∧ w1.cell? ⟨B, 2, none⟩ = some (.string us) ∧ w1.cell? ⟨B, 3, none⟩ = some (.int .i64 at_) := ⟨HA1.out.cell 0, HA1.out.cell 1, HA1.out.cell 2, HA1.out.cell 3⟩
  clear hf1
  cases hs : small11 L with
  | false =>
    go_wp2_with fail
    refine (show Calls _ _ _ _ _ from AW.out _).mono ?_
    rintro e w2 ⟨rfl, hf2⟩
    have HF2 := Lib.hid (HF1.out.trans hf2)
    clear hf2
    go_wp2_with fail
    go_ret
    exact ⟨rfl, HF2.out⟩
  | true =>
    have HC1 := Lib.hid (HFI.out w1 HF1.out hs)
    have HLEN := Lib.hid (HLN.out hs)
    have HGD := Lib.hid (HGD.out hs)
    clear hs
    by_cases h1 : (100 : Int) < (dn : Int)
    · go_wp2_with fail
      refine (show Calls _ _ _ _ _ from AW.out _).mono ?_
      rintro e w2 ⟨rfl, hf2⟩
      have HF2 := Lib.hid (HF1.out.trans hf2)
      clear hf2
      go_wp2_with fail
      go_ret
      exact ⟨rfl, HF2.out⟩
    · by_cases h2 : (200 : Int) < (us.size : Int)
      · go_wp2_with fail
        refine (show Calls _ _ _ _ _ from AW.out _).mono ?_
        rintro e w2 ⟨rfl, hf2⟩
        have HF2 := Lib.hid (HF1.out.trans hf2)
        clear hf2
        go_wp2_with fail
        go_ret
        exact ⟨rfl, HF2.out⟩
      · go_wp2_with fail
        refine (show Calls _ _ _ _ _ from HC1.out).mono ?_
        rintro e w2 ⟨t, F, xa, xc, rfl, hD, hF, hE, hc1, hc2, hf2⟩
        have HF2 := Lib.hid (HF1.out.trans hf2)
        have HD2 := Lib.hid hD
        have HE2 := Lib.hid hE
        have HA2 := Lib.hid (HA1.out.keep hf2 (fun h => h))
        have HC2 := Lib.hid (HH.out.entries w2 t F m hD (by have := HLEN.out; omega))
        clear hD hF hE hf2 HC1 hc2 hc1 b0 b1 b2 b3
        go_wp2_with fail
        refine (show Calls _ _ _ _ _ from HC2.out).mono ?_
        rintro e w3 ⟨v3, rfl, hr3, hf3⟩
        obtain ⟨ea, ec, rfl, k1, k2, hents⟩ := hr3.ents
        have HF3 := Lib.hid (HF2.out.trans hf3)
        have HD3 := Lib.hid (HH.out.keep HD2.out hf3 (fun _ _ h => h))
        have HE3 := Lib.hid (HE2.out.keep hf3 (fun _ _ h => h))
        have HL3 := Lib.hid hents
        have HA3 := Lib.hid (HA2.out.keep hf3 (fun h => h))
        have HGC := Lib.hid (fun w' (f : Fr No w3 w') (u : ByteArray) (hu : u.size ≤ maxLen) => HH.out.get w' t F m u at_ (HH.out.keep HD3.out f (fun _ _ h => h)) (by have := HLEN.out; omega) hu HAT.out)
        have HUC := Lib.hid (fun w' (f : Fr No w3 w') => HH.out.users w' t F m at_ (HH.out.keep HD3.out f (fun _ _ h => h)) (by have := HLEN.out; omega) HAT.out)
        obtain ⟨N, hN⟩ : ∃ N, m.es.length = N := ⟨_, rfl⟩
        have HN := Lib.hid hN
        rw [hN] at HLEN k1 ⊢
        have hN21 := HLEN.out
        have HRG := Lib.hid (fun w' (f : Fr No w3 w') (u : ByteArray) => refGet_c xa xc N m.es u at_ w' _ HN.out (by omega) (HE3.out.keep f (fun _ _ h => h)) (fun y hy => (HGD.out y hy).wf))
        have HRU := Lib.hid (fun w' (f : Fr No w3 w') => refUsers_c xa xc N m.es at_ w' _ HN.out (by omega) (HE3.out.keep f (fun _ _ h => h)) (fun y hy => (HGD.out y hy).wf))
        have dN : ((N : Int) != (N : Int)) = false := by simp
        have HKY := Lib.hid (fun w' (x : Ent) => refK_c x.u x.q x.k w')
        clear hr3 hf3 hents HC2 hN
        go_wp2_with fail
        go_loopw [52] (fun i wr => ∃ j : Nat, i = .int .i64 (j : Int) ∧ j ≤ N ∧ Fr No w3 wr) (fun i _ => N - (intOf i).toNat)
        case atStart => exact ⟨0, rfl, Nat.zero_le _, Fr.refl _ _⟩
        case round =>
          obtain ⟨j, rfl, hj, hfr⟩ := hrel
          have HFR := Lib.hid hfr
          obtain ⟨_, _, b2, b3⟩ : wr.cell? ⟨B, 0, none⟩ = some (.slice a n cap) ∧ wr.cell? ⟨B, 1, none⟩ = some (.slice da dn dc) ∧ wr.cell? ⟨B, 2, none⟩ = some (.string us) ∧ wr.cell? ⟨B, 3, none⟩ = some (.int .i64 at_) := ⟨(HA3.out.keep hfr (fun h => h)).cell 0, (HA3.out.keep hfr (fun h => h)).cell 1, (HA3.out.keep hfr (fun h => h)).cell 2, (HA3.out.keep hfr (fun h => h)).cell 3⟩
          by_cases hlt : j < N
          · have hjl : j < m.es.length := by rw [HN.out]; exact hlt
            obtain ⟨b1, o1, _, rfl, hxs1⟩ := HL3.out (by omega)
            obtain ⟨b4, o4, _, rfl, hxs2⟩ := HE3.out (by omega)
            obtain ⟨x0, x1, x2, x3⟩ := (hxs1 j hjl).keep hfr (fun h => h)
            obtain ⟨y0, y1, y2, y3⟩ := (hxs2 j hjl).keep hfr (fun h => h)
            have hym := getD_memE m.es j hjl
            obtain ⟨x, hx⟩ : ∃ x, m.es.getD j ent0 = x := ⟨_, rfl⟩
            rw [hx] at x0 x1 x2 x3 y0 y1 y2 y3 hym
            have HXS := Lib.hid (HGD.out x hym).wf.1
            have e0 : (x.u.toList == x.u.toList) = true := beq_self_eq_true _
            have e1 : (x.q == x.q) = true := beq_self_eq_true _
            have e2 : (x.k == x.k) = true := beq_self_eq_true _
            have e3 : (x.val.toList == x.val.toList) = true := beq_self_eq_true _
            have HK := Lib.hid (fun w' => HKY.out w' x)
            clear hxs1 hxs2 hx hym
            have hfx := hfr
            clear hfr
            go_wp2_with fail
            replace hfx := hfx.drew
            go_region_held3 (fun w' => w'.cell? ⟨b1, o1 + j * 4, none⟩ = some (.string x.u) ∧ w'.cell? ⟨b1, o1 + j * 4 + 1, none⟩ = some (.int .i64 x.q) ∧ w'.cell? ⟨b1, o1 + j * 4 + 2, none⟩ = some (.int .i64 x.k) ∧ w'.cell? ⟨b1, o1 + j * 4 + 3, none⟩ = some (.string x.val) ∧
                w'.cell? ⟨b4, o4 + j * 4, none⟩ = some (.string x.u) ∧ w'.cell? ⟨b4, o4 + j * 4 + 1, none⟩ = some (.int .i64 x.q) ∧ w'.cell? ⟨b4, o4 + j * 4 + 2, none⟩ = some (.int .i64 x.k) ∧ w'.cell? ⟨b4, o4 + j * 4 + 3, none⟩ = some (.string x.val) ∧ w'.cell? ⟨B, 2, none⟩ = some (.string us) ∧ w'.cell? ⟨B, 3, none⟩ = some (.int .i64 at_) ∧ Fr No w3 w') (first | assumption | go_keep)
              (first
                | (go_at_call 12; refine (HK.out _).mono ?_; intro e w6 hret; obtain ⟨rfl, hf6⟩ := hret
                   have x0 := hf6.cell (p := ⟨b1, o1 + j * 4, none⟩) x0 (fun h => h)
                   have x1 := hf6.cell (p := ⟨b1, o1 + j * 4 + 1, none⟩) x1 (fun h => h)
                   have x2 := hf6.cell (p := ⟨b1, o1 + j * 4 + 2, none⟩) x2 (fun h => h)
                   have x3 := hf6.cell (p := ⟨b1, o1 + j * 4 + 3, none⟩) x3 (fun h => h)
                   have y0 := hf6.cell (p := ⟨b4, o4 + j * 4, none⟩) y0 (fun h => h)
                   have y1 := hf6.cell (p := ⟨b4, o4 + j * 4 + 1, none⟩) y1 (fun h => h)
                   have y2 := hf6.cell (p := ⟨b4, o4 + j * 4 + 2, none⟩) y2 (fun h => h)
                   have y3 := hf6.cell (p := ⟨b4, o4 + j * 4 + 3, none⟩) y3 (fun h => h)
                   have b2 := hf6.cell (p := ⟨B, 2, none⟩) b2 (fun h => h)
                   have b3 := hf6.cell (p := ⟨B, 3, none⟩) b3 (fun h => h)
                   have hfx := hfx.trans hf6
                   clear hf6))
            go_wp2_with fail
            have HGE : Hid (0 ≤ getE m.es x.u at_ ∨ getE m.es x.u at_ = -1) := Lib.hid (by have := (bestI_lt m.es x.u at_ m.es.length).1; unfold getE; omega)
            obtain ⟨G, hG⟩ : ∃ G, getE m.es x.u at_ = G := ⟨_, rfl⟩
            obtain ⟨xg, hxg⟩ : ∃ xg, entAt m G = xg := ⟨_, rfl⟩
            obtain ⟨gb, hgb⟩ : ∃ gb, decide (0 ≤ G) = gb := ⟨_, rfl⟩
            have HG0 : Hid (∀ w', Fr No w6 w' → Calls Try.prog 13 #[.pointer (some ⟨t, 0, none⟩), .string x.u, .int .i64 at_] w' (Ask (.tuple #[.agg #[.string xg.u, .int .i64 xg.q, .int .i64 xg.k, .string xg.val], .bool gb]) w')) := Lib.hid fun w' f => by
              have := HGC.out w' (hfx.trans f) x.u HXS.out
              rw [hG, hxg, hgb] at this
              exact this
            have hne1 : b1 ≠ w6.heap.size := Nat.ne_of_lt (cell_block x0)
            have hne2 : B ≠ w6.heap.size := Nat.ne_of_lt (cell_block b3)
            have HG1 : Hid (∀ w', Fr No w3 w' → Calls Try.prog 15 #[.slice (some ⟨b4, o4, none⟩) N xc, .string x.u, .int .i64 at_] w' (Ask (.int .i64 G) w')) := Lib.hid fun w' f => by
              have := HRG.out w' f x.u
              rw [hG] at this
              exact this
            have HSM : Hid (∀ w', Fr No w3 w' → Calls Try.prog 14 #[.agg #[.string xg.u, .int .i64 xg.q, .int .i64 xg.k, .string xg.val], .bool gb, .slice (some ⟨b4, o4, none⟩) N xc, .int .i64 G] w' (Ask (.bool true) w')) := Lib.hid fun w' f => same_any (m := m) m.es N HN.out (by omega) (HE3.out.keep f (fun _ _ h => h)) x.u at_ G hG xg hxg gb hgb w' rfl
            have HFX := Lib.hid hfx
            have hd0 : w6.drew.cell? ⟨b1, o1 + j * 4, none⟩ = some (.string x.u) ∧ w6.drew.cell? ⟨B, 3, none⟩ = some (.int .i64 at_) := ⟨x0, b3⟩
            clear hG hxg hgb x1 x2 x3 y0 y1 y2 y3 e0 e1 e2 e3 b2
            go_region_held3 (fun w' => w'.cell? ⟨b1, o1 + j * 4, none⟩ = some (.string x.u) ∧ w'.cell? ⟨B, 3, none⟩ = some (.int .i64 at_)) (first | (with_reducible assumption) | (with_reducible (refine held_allocd _ ?_); with_reducible assumption) | (with_reducible (refine held_alloc _ ?_); with_reducible assumption) | (with_reducible (refine held_set4 hne1 hne2 ?_); with_reducible assumption))
              (first
                | (go_at_call 13; (with_reducible refine (HG0.out _ (Fr.drew (Fr.refl _ _))).mono ?_); intro e w7 hret; obtain ⟨rfl, hf7⟩ := hret
                   have HFq : Hid (Fr No w6 w7) := Lib.hid (Fr.trans (Fr.drew (Fr.refl _ _)) hf7)
                   have x0 := HFq.out.cell (p := ⟨b1, o1 + j * 4, none⟩) x0 (fun h => h)
                   have b3 := HFq.out.cell (p := ⟨B, 3, none⟩) b3 (fun h => h)
                   have hd1 := And.intro x0 b3
                   clear hf7)
                | (go_at_call 13; (with_reducible refine (HG0.out _ (Fr.drew (Fr.alloc (Fr.refl _ _) _))).mono ?_); intro e w7 hret; obtain ⟨rfl, hf7⟩ := hret
                   have HFq : Hid (Fr No w6 w7) := Lib.hid (Fr.trans (Fr.drew (Fr.alloc (Fr.refl _ _) _)) hf7)
                   have x0 := HFq.out.cell (p := ⟨b1, o1 + j * 4, none⟩) x0 (fun h => h)
                   have b3 := HFq.out.cell (p := ⟨B, 3, none⟩) b3 (fun h => h)
                   have hd1 := And.intro x0 b3
                   have HZ := Lib.hid (newbox hf7)
                   obtain ⟨z0, z1, z2, z3, v0, v1, v2, v3⟩ := HZ.out.row4
                   clear hf7))
            all_goals
              first
              | (have hh : (w7.alloc (.cells #[.string xg.u, .int .i64 xg.q, .int .i64 xg.k, .string xg.val] 39)).cell? ⟨b1, o1 + j * 4, none⟩ = some (.string x.u) ∧ (w7.alloc (.cells #[.string xg.u, .int .i64 xg.q, .int .i64 xg.k, .string xg.val] 39)).cell? ⟨B, 3, none⟩ = some (.int .i64 at_) := by with_reducible assumption
                 have hA : Fr No w3 (w7.alloc (.cells #[.string xg.u, .int .i64 xg.q, .int .i64 xg.k, .string xg.val] 39)) ∧ At (w7.alloc (.cells #[.string xg.u, .int .i64 xg.q, .int .i64 xg.k, .string xg.val] 39)) w7.heap.size 39 #[.string xg.u, .int .i64 xg.q, .int .i64 xg.k, .string xg.val] := ⟨(HFX.out.trans HFq.out).alloc _, At.new _ _ _⟩
                 revert hh hA
                 generalize (w7.alloc (.cells #[.string xg.u, .int .i64 xg.q, .int .i64 xg.k, .string xg.val] 39)) = W8
                 generalize w7.heap.size = T8
                 intro hh hA)
              | (have hh : ((((w7.setCell ⟨w6.heap.size, 0, none⟩ (.string xg.u)).setCell ⟨w6.heap.size, 1, none⟩ (.int .i64 xg.q)).setCell ⟨w6.heap.size, 2, none⟩ (.int .i64 xg.k)).setCell ⟨w6.heap.size, 3, none⟩ (.string xg.val)).cell? ⟨b1, o1 + j * 4, none⟩ = some (.string x.u) ∧ ((((w7.setCell ⟨w6.heap.size, 0, none⟩ (.string xg.u)).setCell ⟨w6.heap.size, 1, none⟩ (.int .i64 xg.q)).setCell ⟨w6.heap.size, 2, none⟩ (.int .i64 xg.k)).setCell ⟨w6.heap.size, 3, none⟩ (.string xg.val)).cell? ⟨B, 3, none⟩ = some (.int .i64 at_) := by with_reducible assumption
                 have hA : Fr No w3 ((((w7.setCell ⟨w6.heap.size, 0, none⟩ (.string xg.u)).setCell ⟨w6.heap.size, 1, none⟩ (.int .i64 xg.q)).setCell ⟨w6.heap.size, 2, none⟩ (.int .i64 xg.k)).setCell ⟨w6.heap.size, 3, none⟩ (.string xg.val)) ∧ At ((((w7.setCell ⟨w6.heap.size, 0, none⟩ (.string xg.u)).setCell ⟨w6.heap.size, 1, none⟩ (.int .i64 xg.q)).setCell ⟨w6.heap.size, 2, none⟩ (.int .i64 xg.k)).setCell ⟨w6.heap.size, 3, none⟩ (.string xg.val)) w6.heap.size 39 #[.string xg.u, .int .i64 xg.q, .int .i64 xg.k, .string xg.val] := ⟨put4_fr (HFX.out.trans HFq.out) HFX.out.size, HZ.out.put4⟩
                 revert hh hA
                 generalize ((((w7.setCell ⟨w6.heap.size, 0, none⟩ (.string xg.u)).setCell ⟨w6.heap.size, 1, none⟩ (.int .i64 xg.q)).setCell ⟨w6.heap.size, 2, none⟩ (.int .i64 xg.k)).setCell ⟨w6.heap.size, 3, none⟩ (.string xg.val)) = W8
                 generalize w6.heap.size = T8
                 intro hh hA)
            all_goals
              obtain ⟨hF8, hA8⟩ := hA
              try clear x0 b3 hd0 hd1 hne1 hne2 hfx z0 z1 z2 z3 v0 v1 v2 v3
              obtain ⟨x0, b3⟩ := hh
              obtain ⟨q0, q1, q2, q3⟩ : W8.cell? ⟨T8, 0, none⟩ = some (.string xg.u) ∧ W8.cell? ⟨T8, 1, none⟩ = some (.int .i64 xg.q) ∧ W8.cell? ⟨T8, 2, none⟩ = some (.int .i64 xg.k) ∧ W8.cell? ⟨T8, 3, none⟩ = some (.string xg.val) := ⟨hA8.cell 0, hA8.cell 1, hA8.cell 2, hA8.cell 3⟩
              have hfy := hF8.drew
              clear hA8 hF8
              go_wp2_with fail
              go_region_held3 (fun w' => w'.cell? ⟨T8, 0, none⟩ = some (.string xg.u) ∧ w'.cell? ⟨T8, 1, none⟩ = some (.int .i64 xg.q) ∧ w'.cell? ⟨T8, 2, none⟩ = some (.int .i64 xg.k) ∧ w'.cell? ⟨T8, 3, none⟩ = some (.string xg.val) ∧ w'.cell? ⟨b1, o1 + j * 4, none⟩ = some (.string x.u) ∧ w'.cell? ⟨B, 3, none⟩ = some (.int .i64 at_)) (first | assumption | go_keep)
                (first
                  | (go_at_call 15; refine (HG1.out _ hfy).mono ?_; intro e w9 hret; obtain ⟨rfl, hf9⟩ := hret
                     have q0 := hf9.cell (p := ⟨T8, 0, none⟩) q0 (fun h => h)
                     have q1 := hf9.cell (p := ⟨T8, 1, none⟩) q1 (fun h => h)
                     have q2 := hf9.cell (p := ⟨T8, 2, none⟩) q2 (fun h => h)
                     have q3 := hf9.cell (p := ⟨T8, 3, none⟩) q3 (fun h => h)
                     have x0 := hf9.cell (p := ⟨b1, o1 + j * 4, none⟩) x0 (fun h => h)
                     have b3 := hf9.cell (p := ⟨B, 3, none⟩) b3 (fun h => h)
                     have hfy := hfy.trans hf9
                     clear hf9)
                  | (go_at_call 14; refine (HSM.out _ hfy).mono ?_; intro e w10 hret; obtain ⟨rfl, hf9⟩ := hret
                     have q0 := hf9.cell (p := ⟨T8, 0, none⟩) q0 (fun h => h)
                     have q1 := hf9.cell (p := ⟨T8, 1, none⟩) q1 (fun h => h)
                     have q2 := hf9.cell (p := ⟨T8, 2, none⟩) q2 (fun h => h)
                     have q3 := hf9.cell (p := ⟨T8, 3, none⟩) q3 (fun h => h)
                     have x0 := hf9.cell (p := ⟨b1, o1 + j * 4, none⟩) x0 (fun h => h)
                     have b3 := hf9.cell (p := ⟨B, 3, none⟩) b3 (fun h => h)
                     have hfy := hfy.trans hf9
                     clear hf9))
              have HFY := Lib.hid hfy
              go_wp2_with fail
              go_roundw
              case rel => exact ⟨j + 1, by simp, by omega, HFY.out⟩
              case measure => simp [intOf]; omega
          · have HG0 := Lib.hid (HGC.out wr hfr us HUS.out)
            obtain ⟨G, hG⟩ : ∃ G, getE m.es us at_ = G := ⟨_, rfl⟩
            obtain ⟨xg, hxg⟩ : ∃ xg, entAt m G = xg := ⟨_, rfl⟩
            obtain ⟨gb, hgb⟩ : ∃ gb, decide (0 ≤ G) = gb := ⟨_, rfl⟩
            rw [hG, hxg, hgb] at HG0
            have HG1 : Hid (∀ w', Fr No w3 w' → Calls Try.prog 15 #[.slice xa N xc, .string us, .int .i64 at_] w' (Ask (.int .i64 G) w')) := Lib.hid fun w' f => by
              have := HRG.out w' f us
              rw [hG] at this
              exact this
            have HSM : Hid (∀ w', Fr No w3 w' → Calls Try.prog 14 #[.agg #[.string xg.u, .int .i64 xg.q, .int .i64 xg.k, .string xg.val], .bool gb, .slice xa N xc, .int .i64 G] w' (Ask (.bool true) w')) := Lib.hid fun w' f => same_any (m := m) m.es N HN.out (by omega) (HE3.out.keep f (fun _ _ h => h)) us at_ G hG xg hxg gb hgb w' rfl
            obtain ⟨ul, hul⟩ : ∃ ul, usersE m.es at_ m.es.length = ul := ⟨_, rfl⟩
            have HU0 : Hid (∀ w', Fr No w3 w' → Calls Try.prog 16 #[.pointer (some ⟨t, 0, none⟩), .int .i64 at_] w' (NewStrs ul w')) := Lib.hid fun w' f => by
              have := HUC.out w' f
              rw [hul] at this
              exact this
            have HV0 : Hid (∀ w', Fr No w3 w' → Calls Try.prog 17 #[.slice xa N xc, .int .i64 at_] w' (NewStrs ul w')) := Lib.hid fun w' f => by
              have := HRU.out w' f
              rw [← HN.out, hul, HN.out] at this
              exact this
            obtain ⟨k, hk⟩ : ∃ k, ul.length = k := ⟨_, rfl⟩
            have HK := Lib.hid hk
            have dk : ((k : Int) != (k : Int)) = false := by simp
            have hkb : k ≤ N := by
              have := usersE_le m.es at_ m.es.length
              rw [hul, hk, HN.out] at this
              exact this
            clear hG hxg hgb hul hfr
            go_wp2_with fail
            refine (show Calls _ _ _ _ _ from HG0.out).mono ?_
            rintro e w7 ⟨rfl, hf7⟩
            obtain ⟨W8, hW8, hf8, hat8⟩ := box_ent w7 xg 39
            obtain ⟨T8, hT8⟩ : ∃ T, w7.heap.size = T := ⟨_, rfl⟩
            rw [hT8] at hat8
            obtain ⟨q0, q1, q2, q3⟩ := hat8
            have HW8 := Lib.hid hW8
            have HT8 := Lib.hid hT8
            have b2 := (hf7.trans hf8).cell b2 (fun h => h)
            have b3 := (hf7.trans hf8).cell b3 (fun h => h)
            have hfy := (HFR.out.trans (hf7.trans hf8)).drew
            unfold entV
            clear hf7 hf8 hW8 hT8 HG0
            go_wp2_with fail
            rw [HW8.out, HT8.out]
            go_region_held3 (fun w' => w'.cell? ⟨B, 3, none⟩ = some (.int .i64 at_)) (first | assumption | go_keep)
              (first
                | (go_at_call 16; refine (HU0.out _ hfy).mono ?_; intro e w9 hret; obtain ⟨v9, rfl, hr9, hf9⟩ := hret
                   obtain ⟨ua, uc, rfl, ku1, ku2, hu⟩ := hr9.strs
                   have q0 := hf9.cell (p := ⟨T8, 0, none⟩) q0 (fun h => h)
                   have q1 := hf9.cell (p := ⟨T8, 1, none⟩) q1 (fun h => h)
                   have q2 := hf9.cell (p := ⟨T8, 2, none⟩) q2 (fun h => h)
                   have q3 := hf9.cell (p := ⟨T8, 3, none⟩) q3 (fun h => h)
                   have b2 := hf9.cell (p := ⟨B, 2, none⟩) b2 (fun h => h)
                   have b3 := hf9.cell (p := ⟨B, 3, none⟩) b3 (fun h => h)
                   try replace hv := StrIn.keep hv hf9
                   have hfy := hfy.trans hf9
                   clear hf9
                   clear hr9)
                | (go_at_call 17; refine (HV0.out _ hfy).mono ?_; intro e w10 hret; obtain ⟨v10, rfl, hr10, hf9⟩ := hret
                   obtain ⟨va, vc, rfl, kv1, kv2, hv⟩ := hr10.strs
                   have q0 := hf9.cell (p := ⟨T8, 0, none⟩) q0 (fun h => h)
                   have q1 := hf9.cell (p := ⟨T8, 1, none⟩) q1 (fun h => h)
                   have q2 := hf9.cell (p := ⟨T8, 2, none⟩) q2 (fun h => h)
                   have q3 := hf9.cell (p := ⟨T8, 3, none⟩) q3 (fun h => h)
                   have b2 := hf9.cell (p := ⟨B, 2, none⟩) b2 (fun h => h)
                   have b3 := hf9.cell (p := ⟨B, 3, none⟩) b3 (fun h => h)
                   try replace hu := StrIn.keep hu hf9
                   have hfy := hfy.trans hf9
                   clear hf9
                   clear hr10))
            go_wp2_with fail
            replace hfy := hfy.drew
            replace hu := hu.keep (Fr.drew (Fr.refl No _))
            replace hv := hv.keep (Fr.drew (Fr.refl No _))
            go_region_held3 (fun w' => w'.cell? ⟨T8, 0, none⟩ = some (.string xg.u) ∧ w'.cell? ⟨T8, 1, none⟩ = some (.int .i64 xg.q) ∧ w'.cell? ⟨T8, 2, none⟩ = some (.int .i64 xg.k) ∧ w'.cell? ⟨T8, 3, none⟩ = some (.string xg.val) ∧ w'.cell? ⟨B, 2, none⟩ = some (.string us) ∧ w'.cell? ⟨B, 3, none⟩ = some (.int .i64 at_)) (first | assumption | go_keep)
              (first
                | (go_at_call 15; refine (HG1.out _ hfy).mono ?_; intro e w11 hret; obtain ⟨rfl, hf9⟩ := hret
                   have q0 := hf9.cell (p := ⟨T8, 0, none⟩) q0 (fun h => h)
                   have q1 := hf9.cell (p := ⟨T8, 1, none⟩) q1 (fun h => h)
                   have q2 := hf9.cell (p := ⟨T8, 2, none⟩) q2 (fun h => h)
                   have q3 := hf9.cell (p := ⟨T8, 3, none⟩) q3 (fun h => h)
                   have b2 := hf9.cell (p := ⟨B, 2, none⟩) b2 (fun h => h)
                   have b3 := hf9.cell (p := ⟨B, 3, none⟩) b3 (fun h => h)
                   have hu := StrIn.keep hu hf9
                   have hv := StrIn.keep hv hf9
                   have hfy := hfy.trans hf9
                   clear hf9)
                | (go_at_call 14; refine (HSM.out _ hfy).mono ?_; intro e w12 hret; obtain ⟨rfl, hf9⟩ := hret
                   have q0 := hf9.cell (p := ⟨T8, 0, none⟩) q0 (fun h => h)
                   have q1 := hf9.cell (p := ⟨T8, 1, none⟩) q1 (fun h => h)
                   have q2 := hf9.cell (p := ⟨T8, 2, none⟩) q2 (fun h => h)
                   have q3 := hf9.cell (p := ⟨T8, 3, none⟩) q3 (fun h => h)
                   have b2 := hf9.cell (p := ⟨B, 2, none⟩) b2 (fun h => h)
                   have b3 := hf9.cell (p := ⟨B, 3, none⟩) b3 (fun h => h)
                   have hu := StrIn.keep hu hf9
                   have hv := StrIn.keep hv hf9
                   have hfy := hfy.trans hf9
                   clear hf9))
            have HFY := Lib.hid hfy
            have HU := Lib.hid hu
            have HV := Lib.hid hv
            clear hfy hu hv q0 q1 q2 q3 b2 b3
            go_wp2_with fail
            go_loopw [146] (fun i wr => ∃ j : Nat, i = .int .i64 (j : Int) ∧ j ≤ k ∧ Fr No w12 wr) (fun i _ => k - (intOf i).toNat)
            case atStart => exact ⟨0, rfl, Nat.zero_le _, Fr.refl _ _⟩
            case round =>
              obtain ⟨j4, rfl, hj4, hfr4⟩ := hrel
              have HFR4 := Lib.hid hfr4
              by_cases hlt4 : j4 < k
              · have hjl4 : j4 < ul.length := by rw [HK.out]; exact hlt4
                obtain ⟨bu, rfl, hcu⟩ := HU.out (by omega)
                obtain ⟨bv, rfl, hcv⟩ := HV.out (by omega)
                have cu := hfr4.cell (hcu j4 hjl4) (fun h => h)
                have cv := hfr4.cell (hcv j4 hjl4) (fun h => h)
                obtain ⟨u1, hu1⟩ : ∃ u, ul.getD j4 ByteArray.empty = u := ⟨_, rfl⟩
                rw [hu1] at cu cv
                have e4 : (u1.toList == u1.toList) = true := beq_self_eq_true _
                clear hfr4 hcu hcv hu1
                go_wp2_with fail
                go_region
                go_wp2_with fail
                go_roundw
                case rel => exact ⟨j4 + 1, by simp, by omega, HFR4.out.drew⟩
                case measure => simp [intOf]; omega
              · have d9 : decide ((j4 : Int) < (k : Int)) = false := by rw [decide_eq_false_iff_not]; omega
                clear hfr4
                go_wp2_with fail
                refine (show Calls _ _ _ _ _ from AW.out _).mono ?_
                rintro e w13 ⟨rfl, hf13⟩
                have HF13 := Lib.hid (HF3.out.trans (HFY.out.trans (HFR4.out.trans hf13)))
                clear hf13
                go_wp2_with fail
                go_ret
                exact ⟨rfl, HF13.out⟩
theorem memPlays_walk {D : World → Nat → (Nat → Prop) → Mt → Prop} (H : MemOK D) (w : World) (a : Option Addr) (cap : Nat) (L : List Bt) (hc : L.length ≤ cap) (hm : cap ≤ maxLen) (hb : Bts w (fun _ => True) a L) (hw : ∀ x ∈ L, BtWf x) (da : Option Addr) (dc : Nat) (dl : List Int) (hd2 : dl.length ≤ dc) (hd3 : dc ≤ maxLen) (hdi : Ints w da dl) (us : ByteArray) (hus : us.size ≤ maxLen) (at_ : Int) (hat : (Lit.int .i64 at_).wf = true) :
    Calls Try.prog 3 #[.agg #[.slice a L.length cap, .slice da dl.length dc, .string us, .int .i64 at_]] w fun e w' => e = .returned (.bool true) ∧ Below w.heap.size w w' :=
  (mplays_c H w a _ cap L da _ dc dl us at_ rfl (Nat.le_trans hc hm) hb hw rfl hd2 hd3 hdi hus hat).mono fun _ _ h => ⟨h.1, h.2.below (Nat.le_refl _) (fun _ h => absurd h (fun h => h))⟩
end Go.Proofs.Ytggjkpgkmohmdaa
