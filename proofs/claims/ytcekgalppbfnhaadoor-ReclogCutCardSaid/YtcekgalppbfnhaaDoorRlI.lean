/-
  The walk of the statement ReclogCut.
-/
import Derived.Test.YtcekgalppbfnhaaDoorRlH
import Derived.Test.YtcekgalppbfnhaaDoorMemI
namespace Go.Proofs.YtcekgalppbfnhaaDoor
set_option linter.unusedVariables false
open Go.RowKit

theorem cut_top (a : Option Addr) (len c s : Nat) (h : s ≤ c) (w : World) :
    (Instr.slice 22 (.slice a len c) none (some (.int .i64 (s : Int))) (some (.int .i64 (s : Int)))).run Tryd.prog w = .ok (.slice a s s) w := by
  have he : Tryd.prog.elem 22 = 5 := by simp [Program.elem, Tryd.underlying22]
  have ht' : Tryd.prog.underlying 22 = some (.slice (Tryd.prog.elem 22)) := by rw [he]; exact Tryd.underlying22
  rw [run_slice_hm w 22 a len c ht' .i64 .i64 s s (by omega) (by omega) (by omega), he, sizeU8]
  simp [Result.andThen, sliced]
  cases a with
  | none => simp
  | some x => simp [Addr.add]
/-- How many bytes the first k records' frames have. -/
def upF (xs : List Tx) (k : Nat) : Nat := (framesL ((xs.take k).map Tx.b)).length
theorem upF_next {xs : List Tx} {k : Nat} {x : Tx} (h : xs[k]? = some x) : upF xs (k + 1) = upF xs k + sizeL x.b.length := by
  unfold upF
  rw [take_map_snoc h, framesL_snoc, List.length_append, frameL_length]
theorem upF_mono (xs : List Tx) {j k : Nat} (h : j ≤ k) : upF xs j ≤ upF xs k := by
  unfold upF
  have := framesL_take_le ((xs.take k).map Tx.b) j
  rw [← List.map_take, List.take_take, Nat.min_eq_left h] at this
  exact this
theorem upF_bound {xs : List Tx} (hx : ∀ (j : Nat) (x : Tx), xs[j]? = some x → x.b.length ≤ 300) : ∀ k, upF xs k ≤ k * 313
  | 0 => by unfold upF; simp [framesL]
  | k + 1 => by
    have ih := upF_bound hx k
    rcases Nat.lt_or_ge k xs.length with h | h
    · obtain ⟨x, hk⟩ : ∃ x, xs[k]? = some x := ⟨_, List.getElem?_eq_getElem h⟩
      rw [upF_next hk]
      have h1 := hx k x hk
      have h2 := sizeL_le (n := x.b.length) (by omega)
      omega
    · have e : upF xs (k + 1) = upF xs k := by
        unfold upF
        rw [List.take_of_length_le (by omega), List.take_of_length_le (by omega)]
      omega
/-- The ends of the first k frames. -/
def endsL (xs : List Tx) (k : Nat) : List Int := (List.range k).map fun t => (upF xs (t + 1) : Int)
theorem endsL_next (xs : List Tx) (k : Nat) : endsL xs (k + 1) = endsL xs k ++ [(upF xs (k + 1) : Int)] := by
  unfold endsL
  rw [List.range_succ, List.map_append]
  rfl
theorem endsL_length (xs : List Tx) (k : Nat) : (endsL xs k).length = k := by
  unfold endsL
  rw [List.length_map, List.length_range]
theorem endsL_get (xs : List Tx) {k t : Nat} (h : t < k) : (endsL xs k).getD t 0 = (upF xs (t + 1) : Int) := by
  unfold endsL
  simp [List.getD, h]
theorem scan_cut {xs : List Tx} (hx : ∀ (j : Nat) (x : Tx), xs[j]? = some x → x.b.length ≤ 300) {k c : Nat} (hk : k ≤ xs.length) (h1 : upF xs k ≤ c) (h2 : c ≤ upF xs xs.length) (h3 : k < xs.length → c < upF xs (k + 1)) (hc : c ≤ 1000000) :
    scanL ((framesL (xs.map Tx.b)).take c) = (xs.take k).map Tx.b := by
  refine scanL_eq (by rw [List.length_take]; omega) ?_
  refine ⟨(framesL ((xs.drop k).map Tx.b)).take (c - upF xs k), ?_, ?_⟩
  · have e : framesL (xs.map Tx.b) = framesL ((xs.take k).map Tx.b) ++ framesL ((xs.drop k).map Tx.b) := by
      rw [← framesL_append, ← List.map_append, List.take_append_drop]
    rw [e, List.take_append]
    unfold upF at h1 ⊢
    rw [List.take_of_length_le h1]
  · rcases Nat.lt_or_ge k xs.length with h | h
    · obtain ⟨x, hkx⟩ : ∃ x, xs[k]? = some x := ⟨_, List.getElem?_eq_getElem h⟩
      have e : xs.drop k = x :: xs.drop (k + 1) := by
        rw [List.drop_eq_getElem_cons h]
        rw [List.getElem?_eq_getElem h] at hkx
        rw [Option.some.inj hkx]
      have h4 := h3 h
      rw [upF_next hkx, ← frameL_length] at h4
      rw [e]
      show headF ((frameL x.b ++ framesL ((xs.drop (k + 1)).map Tx.b)).take (c - upF xs k)) = none
      rw [List.take_append_of_le_length (by omega)]
      have := hx k x hkx
      exact headF_cut x.b (by omega) _ (by omega)
    · rw [List.drop_eq_nil_of_le h]
      exact headF_short (by simp [framesL])
theorem Row.own1 {w1 w2 : World} {v v' : Value} {l : List UInt8} {B : Nat} (h : Row w2 (Gr (Own1 v) w1 w2) v' l) (hv : ∀ k, v.ownBlock = some k → B ≤ k) (hB : B ≤ w1.heap.size) : Row w2 (Own1 v') v' l ∧ (∀ k, v'.ownBlock = some k → B ≤ k) ∧ ∀ k, v'.ownBlock = some k → v.ownBlock = some k ∨ w1.heap.size ≤ k :=
  ⟨h.own, fun k hk => (h.2 k hk).elim (hv k) fun h => Nat.le_trans hB h.1, fun k hk => (h.2 k hk).elim .inl fun h => .inr h.1⟩
theorem RowI.own1 {w1 w2 : World} {v v' : Value} {l : List Int} {B : Nat} (h : RowI w2 (Gr (Own1 v) w1 w2) v' l) (hv : ∀ k, v.ownBlock = some k → B ≤ k) (hB : B ≤ w1.heap.size) : RowI w2 (Own1 v') v' l ∧ (∀ k, v'.ownBlock = some k → B ≤ k) ∧ ∀ k, v'.ownBlock = some k → v.ownBlock = some k ∨ w1.heap.size ≤ k :=
  ⟨h.own, fun k hk => (h.2 k hk).elim (hv k) fun h => Nat.le_trans hB h.1, fun k hk => (h.2 k hk).elim .inl fun h => .inr h.1⟩
/-- The bytes and the ends, in rows of their own. -/
structure CutI (W : World) (l : List Tx) (j : Nat) (v u : Value) (wr : World) : Prop where
  row : Row wr (Own1 v) v (framesL ((l.take j).map Tx.b))
  rowI : RowI wr (Own1 u) u (endsL l j)
  vB : ∀ k, v.ownBlock = some k → W.heap.size ≤ k
  uB : ∀ k, u.ownBlock = some k → W.heap.size ≤ k
  two : ∀ k, v.ownBlock = some k → u.ownBlock ≠ some k
  fr : Fr No W wr
set_option maxRecDepth 20000 in
set_option maxHeartbeats 3200000 in
theorem reclogCut_walk (W : World) (ht : Tab W) (a : Option Addr) (cap : Nat) (l : List Tx) (hc : l.length ≤ cap) (hm : cap ≤ maxLen) (hr : Texts W a l) (ct : Int) (wct : (Lit.int .i64 ct).wf = true) :
    Calls Tryd.prog 5 #[.slice a l.length cap, .int .i64 ct] W fun e W' => e = .returned (.bool true) ∧ Below W.heap.size W W' := by
  refine Calls.mono (R := Ask (.bool true) W) ?_ fun e w' h => h.post
  have CS := small9_c a cap l 40 W (Nat.le_trans hc hm) hr
  unfold maxLen at hm
  have CA := Lib.hid (fun w (f : Fr No W w) => awake9_c w (ht.keep f (fun h => h)))
  cases hsm : small9 l 40 with
  | false =>
    rw [hsm] at CS
    have CS := Lib.hid CS
    have CA := Lib.hid (CA.out W (Fr.refl _ _))
    clear ht hr hsm
    generalize l.length = n at *
    go_enter Tryd.func5, Tryd.ntmps5
    go_wp2_with fail
    refine (show Calls _ _ _ _ _ from CS.out).mono ?_
    rintro e w1 ⟨rfl, rfl⟩
    go_wp2_with fail
    refine (show Calls _ _ _ _ _ from CA.out).mono ?_
    rintro e w1 ⟨rfl, hf⟩
    go_wp2_with fail
    go_ret
    exact ⟨rfl, hf⟩
  | true =>
    rw [hsm] at CS
    have CS := Lib.hid CS
    have CA9 := CA
    obtain ⟨h40, h300⟩ := small9_yes hsm
    have hw1 : -9223372036854775808 ≤ ct ∧ ct ≤ 9223372036854775807 := by
      simp [Lit.wf, IntKind.min, IntKind.max, IntKind.signed, IntKind.bits] at wct
      omega
    have CFR := Lib.hid (fun (x : Tx) (n : Nat) (h : x.b.length = n) (hn : n ≤ 1000000) (w : World) (f : Fr No W w) (hr : Rd w x.a x.b) => frame_c x.a n x.c x.b w h hn hr (ht.keep f (fun h => h)))
    have CSC := Lib.hid (fun (a : Option Addr) (n c : Nat) (b : List UInt8) (w : World) (f : Fr No W w) (h : b.length = n) (hn : n ≤ 100000) (hc : n ≤ c) (hr : Rd w a b) => scan_c a n c b w h hn hc hr (ht.keep f (fun h => h)))
    have HB := Lib.hid (fun k => upF_bound h300 k)
    have H300 := Lib.hid h300
    have HCUT := Lib.hid (fun (k c : Nat) h1 h2 h3 h4 h5 => scan_cut h300 (k := k) (c := c) h1 h2 h3 h4 h5)
    have HREC := Lib.hid hr.recs
    obtain ⟨n, hn⟩ : ∃ n, l.length = n := ⟨_, rfl⟩
    have HN := Lib.hid hn
    rw [hn] at CS hc h40 HCUT
    rw [hn]
    clear ht hr hsm hn h300 wct
    go_enter Tryd.func5, Tryd.ntmps5
    go_wp2_with fail
    refine (show Calls _ _ _ _ _ from CS.out).mono ?_
    rintro e w1 ⟨rfl, rfl⟩
    go_wp2_with fail
    go_loopw [5, 6, 19] (fun v u i wr => ∃ j : Nat, i = .int .i64 j ∧ j ≤ n ∧ CutI W l j v u wr) (fun _ _ i _ => n - (intOf i).toNat)
    case atStart => exact ⟨0, rfl, Nat.zero_le _, ⟨Row.nil _ _, RowI.nil _ _, fun k h => absurd h (by simp [Value.ownBlock]), fun k h => absurd h (by simp [Value.ownBlock]), fun k h => absurd h (by simp [Value.ownBlock]), Fr.refl _ _⟩⟩
    case round =>
      obtain ⟨j, rfl, hj, hI⟩ := hrel
      have hb1 := HB.out j
      have HI := Lib.hid hI
      by_cases h1 : j < n
      · have d1 : decide ((j : Int) < (n : Int)) = true := by rw [decide_eq_true_eq]; omega
        obtain ⟨b, o, rfl, hx⟩ := HREC.out (by rw [HN.out]; omega)
        obtain ⟨x, hxj⟩ : ∃ x, l[j]? = some x := ⟨_, List.getElem?_eq_getElem (by rw [HN.out]; exact h1)⟩
        have qx := (hx j x hxj).keep hI.fr
        have c0 := qx.c0
        have hle := H300.out j x hxj
        have HUP := Lib.hid (upF_next hxj)
        have HST := Lib.hid (take_map_snoc hxj)
        obtain ⟨m, hmx⟩ : ∃ m, x.b.length = m := ⟨_, rfl⟩
        rw [hmx] at c0 hle HUP
        have C5 := Lib.hid (CFR.out x m hmx (by omega) wr hI.fr qx.rd)
        obtain ⟨va, vn, vc, rfl⟩ := hI.row.shape
        obtain ⟨ua, uc, rfl, u1, u2, _⟩ := hI.rowI.form
        rw [endsL_length] at u1 HI ⊢
        unfold maxLen at u2
        have hupl : (framesL ((l.take j).map Tx.b)).length = upF l j := rfl
        clear hI hx hxj qx
        obtain ⟨za, zc, zb⟩ := x
        simp only at c0 C5 HST hmx
        have HM := Lib.hid hmx
        clear hmx
        go_wp2_with fail
        refine (show Calls _ _ _ _ _ from C5.out).mono ?_
        rintro e w5 ⟨v5, rfl, r5, f5⟩
        obtain ⟨fa, fc, rfl, g1, g2, gin⟩ := r5.form
        obtain ⟨fl, hfl⟩ : ∃ n, (frameL zb).length = n := ⟨_, rfl⟩
        have hflb := frameL_length zb
        have hflc := sizeL_le (n := zb.length) (by rw [HM.out]; omega)
        rw [HM.out] at hflb hflc
        rw [hfl] at hflb
        rw [hfl]
        obtain ⟨v', W6, hrun, hrow6, hf6⟩ := (HI.out.row.keep f5 (fun _ _ h => h)).append fa fl fc (frameL zb) hfl gin.rd (by omega)
        obtain ⟨p1, p2, p3⟩ := hrow6.own1 HI.out.vB (Nat.le_trans HI.out.fr.size f5.size)
        rw [← framesL_snoc, ← HST.out] at p1
        have q1 := (HI.out.rowI.keep f5 (fun _ _ h => h)).keep hf6 (fun k hk h => HI.out.two k h hk)
        have f6 : Fr No W W6 := (HI.out.fr.trans f5).then_ hf6 fun k hk h => by
          have := HI.out.vB k h
          omega
        have hsep : ∀ k, v'.ownBlock = some k → (Value.slice ua j uc).ownBlock ≠ some k := fun k hk e => by
          rcases p3 k hk with h | h
          · exact HI.out.two k h e
          · have := (HI.out.rowI.1.lt k e).2
            have := f5.size
            omega
        obtain ⟨u', W7, hrun7, hrow7, hf7⟩ := q1.push (fun k hk => (q1.1.lt k hk).2) (upF l (j + 1) : Int) (by rw [endsL_length]; omega)
        rw [← endsL_next] at hrow7
        obtain ⟨s1, s2, s3⟩ := hrow7.own1 HI.out.uB f6.size
        have r1 := p1.keep hf7 (fun k hk h => hsep k hk h)
        have hnew : Hid (CutI W l (j + 1) v' u' W7) := Lib.hid ⟨r1, s1, p2, s2, fun k hk e => by
          rcases s3 k e with h | h
          · exact hsep k hk h
          · have := (p1.1.lt k hk).2
            omega, f6.then_ hf7 fun k hk h => by
          have := HI.out.uB k h
          omega⟩
        obtain ⟨ga, gc, rfl, w1', w2', _⟩ := p1.form
        have hup : (framesL ((l.take (j + 1)).map Tx.b)).length = upF l (j + 1) := rfl
        rw [hup] at hrun hnew
        have HRUN := Lib.hid hrun
        have HRUN7 := Lib.hid hrun7
        clear r5 f5 gin hrun hrow6 hf6 hfl hflb hflc C5 p1 p2 p3 q1 f6 hsep hrun7 hrow7 hf7 s1 s2 s3 r1 hup hupl
        go_wp2_with (first
          | (at_builtin; refine wpList_append_run rfl _ _ 22 rfl rfl rfl HRUN.out ?_; clear HRUN)
          | (at_builtin; refine wpList_append_run rfl _ _ 33 rfl rfl rfl HRUN7.out ?_))
        go_roundw
        case rel => exact ⟨j + 1, by simp, by omega, hnew.out⟩
        case measure => simp [intOf]; omega
      · obtain rfl : j = n := by omega
        have d1 : decide ((j : Int) < (j : Int)) = false := by simp
        obtain ⟨va, vc, rfl, v1, v2, vin⟩ := hI.row.form
        obtain ⟨ua, uc, rfl, u1, u2, ucell⟩ := hI.rowI.form
        have hfull : (l.take j).map Tx.b = l.map Tx.b := by rw [List.take_of_length_le (by rw [HN.out]; exact Nat.le_refl _)]
        have hF : (framesL ((l.take j).map Tx.b)).length = upF l j := rfl
        rw [hF] at v1 ⊢
        rw [endsL_length] at u1 ucell ⊢
        rw [hfull] at vin
        have HV := Lib.hid vin.rd
        have HFL : Hid ((framesL (l.map Tx.b)).length = upF l j) := Lib.hid (by rw [← hfull]; exact hF)
        have HUC := Lib.hid ucell
        have HFA := Lib.hid hI.fr
        have CA := Lib.hid (CA.out wr hI.fr)
        unfold maxLen at v2 u2
        obtain ⟨F, hFF⟩ : ∃ F, upF l j = F := ⟨_, rfl⟩
        have HFF := Lib.hid hFF
        rw [hFF] at v1 hb1 HFL ⊢
        clear hI HI vin ucell hfull hF hFF
        by_cases hc0 : ct < 0
        · have e0 : decide (ct < 0) = true := by rw [decide_eq_true_eq]; exact hc0
          go_wp2_with fail
          refine (show Calls _ _ _ _ _ from CA.out).mono ?_
          rintro e w1 ⟨rfl, hf⟩
          go_wp2_with fail
          go_ret
          exact ⟨rfl, HFA.out.trans hf⟩
        have e0 : decide (ct < 0) = false := by rw [decide_eq_false_iff_not]; exact hc0
        by_cases hc1 : (F : Int) < ct
        · have e2 : decide ((F : Int) < ct) = true := by rw [decide_eq_true_eq]; exact hc1
          go_wp2_with fail
          refine (show Calls _ _ _ _ _ from CA.out).mono ?_
          rintro e w1 ⟨rfl, hf⟩
          go_wp2_with fail
          go_ret
          exact ⟨rfl, HFA.out.trans hf⟩
        obtain ⟨c, rfl⟩ : ∃ c : Nat, ct = (c : Int) := ⟨ct.toNat, by omega⟩
        have hcF : c ≤ F := by omega
        have e2 : decide ((F : Int) < (c : Int)) = false := by rw [decide_eq_false_iff_not]; omega
        have CA0 := Lib.hid (fun w (f : Fr No W w) => CA9.out w f)
        clear hc0 hc1 CA
        go_wp2_with fail
        clear e0 e2
        obtain ⟨w5, rfl⟩ : ∃ x, x = wr := ⟨_, rfl⟩
        go_loopw [9] (fun i wr => ∃ k : Nat, i = .int .i64 k ∧ k ≤ j ∧ upF l k ≤ c ∧ wr = w5) (fun i _ => j - (intOf i).toNat)
        case atStart => exact ⟨0, rfl, Nat.zero_le _, by unfold upF; simp [framesL], rfl⟩
        case round =>
          obtain ⟨k, rfl, hk, hkc, rfl⟩ := hrel
          by_cases h2 : k < j
          · have e1 : decide ((k : Int) < (j : Int)) = true := by rw [decide_eq_true_eq]; omega
            obtain ⟨tb, to, _, htb, tcell⟩ := HUC.out (by omega)
            have ck := tcell k h2
            rw [endsL_get l h2] at ck
            have gk0 : (0 : Int) ≤ (k : Int) := by omega
            have gk1 : (k : Int) < (j : Int) := by omega
            subst htb
            clear tcell
            by_cases h3 : upF l (k + 1) ≤ c
            · obtain ⟨up, hup⟩ : ∃ u : Int, (upF l (k + 1) : Int) = u := ⟨_, rfl⟩
              have e2 : decide (up ≤ (c : Int)) = true := by rw [decide_eq_true_eq]; omega
              rw [hup] at ck
              clear hup
              have H3 := Lib.hid h3
              clear h3
              go_wp2_with fail
              go_roundw
              case rel => exact ⟨k + 1, by simp, by omega, H3.out, by simp⟩
              case measure => simp [intOf]; omega
            · obtain ⟨up, hup⟩ : ∃ u : Int, (upF l (k + 1) : Int) = u := ⟨_, rfl⟩
              have e2 : decide (up ≤ (c : Int)) = false := by rw [decide_eq_false_iff_not]; omega
              rw [hup] at ck
              have hstop : k < j → c < upF l (k + 1) := fun _ => by omega
              clear h3 hup
              rcases Nat.eq_zero_or_pos k with hk0 | hk0
              · subst hk0
                simp only [Nat.add_zero] at ck
                have HSCN := Lib.hid (HCUT.out 0 c (by omega) hkc (by rw [HFF.out]; exact hcF) hstop (by omega))
                have hlc : ((framesL (l.map Tx.b)).take c).length = c := by rw [List.length_take, HFL.out]; omega
                have KT := cut_top va F vc c (by omega)
                have C6 := Lib.hid (CSC.out va c c ((framesL (l.map Tx.b)).take c) wr HFA.out hlc (by omega) (Nat.le_refl _) (HV.out.take c))
                have HUP : Hid ((framesL (scanL ((framesL (l.map Tx.b)).take c))).length = upF l 0) := Lib.hid (by rw [HSCN.out]; rfl)
                have KL : ∀ w, (Instr.slice 25 (.slice a j cap) none (some (.int .i64 0)) none).run Tryd.prog w = .ok (.slice a 0 cap) w := fun w => by
                  have z := cut_hi (P := Tryd.prog) (t := 25) (e := 22) Tryd.underlying25 sizeSl a j cap 0 (by omega) w
                  exact z
                have htl : (l.take 0).length = 0 := by rw [List.length_take, HN.out]; omega
                have HTR : Hid (Recs W a (l.take 0)) := Lib.hid fun h0 => by
                  obtain ⟨b, o, hb, hx⟩ := HREC.out (by rw [HN.out]; rw [htl] at h0; omega)
                  exact ⟨b, o, hb, fun i x hi => hx i x (by rw [List.getElem?_take] at hi; split at hi; exact hi; cases hi)⟩
                have HTL := Lib.hid htl
                have hz0 : upF l 0 = 0 := by unfold upF; simp [framesL]
                clear hlc htl hkc hstop
                obtain ⟨en, hen⟩ : ∃ n, upF l 0 = n := ⟨_, rfl⟩
                rw [hen] at HUP hz0
                subst hz0
                clear hen
                obtain ⟨w5, rfl⟩ : ∃ x, x = wr := ⟨_, rfl⟩
                go_wp2_with fail
                refine (show Calls _ _ _ _ _ from C6.out).mono ?_
                rintro e w6 ⟨v6, xs, rfl, htx, hxs, hf6⟩
                rw [HUP.out]
                rw [HSCN.out] at hxs
                obtain ⟨xa, xc, rfl, x1, x2, hrec⟩ := htx.texts
                have hxl : xs.length = 0 := by
                  have z := congrArg List.length hxs
                  rw [List.length_map, List.length_map, HTL.out] at z
                  exact z
                rw [hxl] at x1 ⊢
                have HF6 := Lib.hid (HFA.out.trans hf6)
                have HS := sameT_c xa a 0 xc 0 cap xs (l.take 0) w6 hxl HTL.out (by omega) (by omega) hrec (HTR.out.keep HF6.out)
                rw [hxs, beq_self_eq_true] at HS
                have HS := Lib.hid HS
                clear htx hxs hrec hf6 C6 hxl
                go_wp2_with fail
                refine (show Calls _ _ _ _ _ from HS.out).mono ?_
                rintro e w7 ⟨rfl, hf7⟩
                have CA7 := Lib.hid (CA0.out w7 (HF6.out.trans hf7))
                have HF7 := Lib.hid (HF6.out.trans hf7)
                clear hf7 HS
                go_wp2_with fail
                refine (show Calls _ _ _ _ _ from CA7.out).mono ?_
                rintro e w8 ⟨rfl, hf8⟩
                go_wp2_with fail
                go_ret
                exact ⟨rfl, HF7.out.trans hf8⟩
              · obtain ⟨q, hq⟩ : ∃ q, k = q + 1 := ⟨k - 1, by omega⟩
                have HSCN := Lib.hid (HCUT.out k c (by omega) hkc (by rw [HFF.out]; exact hcF) hstop (by omega))
                have hlc : ((framesL (l.map Tx.b)).take c).length = c := by rw [List.length_take, HFL.out]; omega
                have KT := cut_top va F vc c (by omega)
                have C6 := Lib.hid (CSC.out va c c ((framesL (l.map Tx.b)).take c) wr HFA.out hlc (by omega) (Nat.le_refl _) (HV.out.take c))
                have HUP : Hid ((framesL (scanL ((framesL (l.map Tx.b)).take c))).length = upF l k) := Lib.hid (by rw [HSCN.out]; rfl)
                have KL : ∀ w, (Instr.slice 25 (.slice a j cap) none (some (.int .i64 (k : Int))) none).run Tryd.prog w = .ok (.slice a k cap) w := fun w => by
                  have z := cut_hi (P := Tryd.prog) (t := 25) (e := 22) Tryd.underlying25 sizeSl a j cap k (by omega) w
                  exact z
                have htl : (l.take k).length = k := by rw [List.length_take, HN.out]; omega
                have HTR : Hid (Recs W a (l.take k)) := Lib.hid fun h0 => by
                  obtain ⟨b, o, hb, hx⟩ := HREC.out (by rw [HN.out]; rw [htl] at h0; omega)
                  exact ⟨b, o, hb, fun i x hi => hx i x (by rw [List.getElem?_take] at hi; split at hi; exact hi; cases hi)⟩
                have HTL := Lib.hid htl
                obtain ⟨ub, uo, _, hub, ucell⟩ := HUC.out (by omega)
                cases hub
                have cq := ucell q (by omega)
                rw [endsL_get l (by omega), ← hq] at cq
                have eq1 : (k : Int) - 1 = (q : Int) := by omega
                have g0 : (0 : Int) ≤ (q : Int) := by omega
                have g1 : (q : Int) < (j : Int) := by omega
                have dk : decide ((0 : Int) < (k : Int)) = true := by rw [decide_eq_true_eq]; omega
                have HQ := Lib.hid hq
                clear hq
                clear hlc htl ucell hkc hstop
                obtain ⟨en, hen⟩ : ∃ n, upF l k = n := ⟨_, rfl⟩
                rw [hen] at HUP cq
                clear hen
                obtain ⟨w5, rfl⟩ : ∃ x, x = wr := ⟨_, rfl⟩
                go_wp2_with fail
                refine (show Calls _ _ _ _ _ from C6.out).mono ?_
                rintro e w6 ⟨v6, xs, rfl, htx, hxs, hf6⟩
                rw [HUP.out]
                rw [HSCN.out] at hxs
                obtain ⟨xa, xc, rfl, x1, x2, hrec⟩ := htx.texts
                have hxl : xs.length = k := by
                  have z := congrArg List.length hxs
                  rw [List.length_map, List.length_map, HTL.out] at z
                  exact z
                rw [hxl] at x1 ⊢
                have HF6 := Lib.hid (HFA.out.trans hf6)
                have HS := sameT_c xa a k xc k cap xs (l.take k) w6 hxl HTL.out (by omega) (by omega) hrec (HTR.out.keep HF6.out)
                rw [hxs, beq_self_eq_true] at HS
                have HS := Lib.hid HS
                have cq := hf6.cell cq (fun h => h)
                clear htx hxs hrec hf6 C6 hxl
                go_wp2_with fail
                refine (show Calls _ _ _ _ _ from HS.out).mono ?_
                rintro e w7 ⟨rfl, hf7⟩
                have CA7 := Lib.hid (CA0.out w7 (HF6.out.trans hf7))
                have HF7 := Lib.hid (HF6.out.trans hf7)
                clear hf7 HS
                go_wp2_with fail
                refine (show Calls _ _ _ _ _ from CA7.out).mono ?_
                rintro e w8 ⟨rfl, hf8⟩
                go_wp2_with fail
                go_ret
                exact ⟨rfl, HF7.out.trans hf8⟩
          · obtain rfl : j = k := by omega
            have e1 : decide ((j : Int) < (j : Int)) = false := by simp
            have hstop : j < j → c < upF l (j + 1) := fun h => absurd h (Nat.lt_irrefl _)
            rcases Nat.eq_zero_or_pos j with hk0 | hk0
            · subst hk0
              have HSCN := Lib.hid (HCUT.out 0 c (by omega) hkc (by rw [HFF.out]; exact hcF) hstop (by omega))
              have hlc : ((framesL (l.map Tx.b)).take c).length = c := by rw [List.length_take, HFL.out]; omega
              have KT := cut_top va F vc c (by omega)
              have C6 := Lib.hid (CSC.out va c c ((framesL (l.map Tx.b)).take c) wr HFA.out hlc (by omega) (Nat.le_refl _) (HV.out.take c))
              have HUP : Hid ((framesL (scanL ((framesL (l.map Tx.b)).take c))).length = upF l 0) := Lib.hid (by rw [HSCN.out]; rfl)
              have KL : ∀ w, (Instr.slice 25 (.slice a 0 cap) none (some (.int .i64 0)) none).run Tryd.prog w = .ok (.slice a 0 cap) w := fun w => by
                have z := cut_hi (P := Tryd.prog) (t := 25) (e := 22) Tryd.underlying25 sizeSl a 0 cap 0 (by omega) w
                exact z
              have htl : (l.take 0).length = 0 := by rw [List.length_take, HN.out]; omega
              have HTR : Hid (Recs W a (l.take 0)) := Lib.hid fun h0 => by
                obtain ⟨b, o, hb, hx⟩ := HREC.out (by rw [HN.out]; rw [htl] at h0; omega)
                exact ⟨b, o, hb, fun i x hi => hx i x (by rw [List.getElem?_take] at hi; split at hi; exact hi; cases hi)⟩
              have HTL := Lib.hid htl
              have hz0 : upF l 0 = 0 := by unfold upF; simp [framesL]
              clear hlc htl hkc hstop
              obtain ⟨en, hen⟩ : ∃ n, upF l 0 = n := ⟨_, rfl⟩
              rw [hen] at HUP hz0
              subst hz0
              clear hen
              obtain ⟨w5, rfl⟩ : ∃ x, x = wr := ⟨_, rfl⟩
              go_wp2_with fail
              refine (show Calls _ _ _ _ _ from C6.out).mono ?_
              rintro e w6 ⟨v6, xs, rfl, htx, hxs, hf6⟩
              rw [HUP.out]
              rw [HSCN.out] at hxs
              obtain ⟨xa, xc, rfl, x1, x2, hrec⟩ := htx.texts
              have hxl : xs.length = 0 := by
                have z := congrArg List.length hxs
                rw [List.length_map, List.length_map, HTL.out] at z
                exact z
              rw [hxl] at x1 ⊢
              have HF6 := Lib.hid (HFA.out.trans hf6)
              have HS := sameT_c xa a 0 xc 0 cap xs (l.take 0) w6 hxl HTL.out (by omega) (by omega) hrec (HTR.out.keep HF6.out)
              rw [hxs, beq_self_eq_true] at HS
              have HS := Lib.hid HS
              clear htx hxs hrec hf6 C6 hxl
              go_wp2_with fail
              refine (show Calls _ _ _ _ _ from HS.out).mono ?_
              rintro e w7 ⟨rfl, hf7⟩
              have CA7 := Lib.hid (CA0.out w7 (HF6.out.trans hf7))
              have HF7 := Lib.hid (HF6.out.trans hf7)
              clear hf7 HS
              go_wp2_with fail
              refine (show Calls _ _ _ _ _ from CA7.out).mono ?_
              rintro e w8 ⟨rfl, hf8⟩
              go_wp2_with fail
              go_ret
              exact ⟨rfl, HF7.out.trans hf8⟩
            · obtain ⟨q, hq⟩ : ∃ q, j = q + 1 := ⟨j - 1, by omega⟩
              have HSCN := Lib.hid (HCUT.out j c (by omega) hkc (by rw [HFF.out]; exact hcF) hstop (by omega))
              have hlc : ((framesL (l.map Tx.b)).take c).length = c := by rw [List.length_take, HFL.out]; omega
              have KT := cut_top va F vc c (by omega)
              have C6 := Lib.hid (CSC.out va c c ((framesL (l.map Tx.b)).take c) wr HFA.out hlc (by omega) (Nat.le_refl _) (HV.out.take c))
              have HUP : Hid ((framesL (scanL ((framesL (l.map Tx.b)).take c))).length = upF l j) := Lib.hid (by rw [HSCN.out]; rfl)
              have KL : ∀ w, (Instr.slice 25 (.slice a j cap) none (some (.int .i64 (j : Int))) none).run Tryd.prog w = .ok (.slice a j cap) w := fun w => by
                have z := cut_hi (P := Tryd.prog) (t := 25) (e := 22) Tryd.underlying25 sizeSl a j cap j (by omega) w
                exact z
              have htl : (l.take j).length = j := by rw [List.length_take, HN.out]; omega
              have HTR : Hid (Recs W a (l.take j)) := Lib.hid fun h0 => by
                obtain ⟨b, o, hb, hx⟩ := HREC.out (by rw [HN.out]; rw [htl] at h0; omega)
                exact ⟨b, o, hb, fun i x hi => hx i x (by rw [List.getElem?_take] at hi; split at hi; exact hi; cases hi)⟩
              have HTL := Lib.hid htl
              obtain ⟨ub, uo, _, hub, ucell⟩ := HUC.out (by omega)
              cases hub
              have cq := ucell q (by omega)
              rw [endsL_get l (by omega), ← hq] at cq
              have eq1 : (j : Int) - 1 = (q : Int) := by omega
              have g0 : (0 : Int) ≤ (q : Int) := by omega
              have g1 : (q : Int) < (j : Int) := by omega
              have dk : decide ((0 : Int) < (j : Int)) = true := by rw [decide_eq_true_eq]; omega
              have HQ := Lib.hid hq
              clear hq
              clear hlc htl ucell hkc hstop
              obtain ⟨en, hen⟩ : ∃ n, upF l j = n := ⟨_, rfl⟩
              rw [hen] at HUP cq
              clear hen
              obtain ⟨w5, rfl⟩ : ∃ x, x = wr := ⟨_, rfl⟩
              go_wp2_with fail
              refine (show Calls _ _ _ _ _ from C6.out).mono ?_
              rintro e w6 ⟨v6, xs, rfl, htx, hxs, hf6⟩
              rw [HUP.out]
              rw [HSCN.out] at hxs
              obtain ⟨xa, xc, rfl, x1, x2, hrec⟩ := htx.texts
              have hxl : xs.length = j := by
                have z := congrArg List.length hxs
                rw [List.length_map, List.length_map, HTL.out] at z
                exact z
              rw [hxl] at x1 ⊢
              have HF6 := Lib.hid (HFA.out.trans hf6)
              have HS := sameT_c xa a j xc j cap xs (l.take j) w6 hxl HTL.out (by omega) (by omega) hrec (HTR.out.keep HF6.out)
              rw [hxs, beq_self_eq_true] at HS
              have HS := Lib.hid HS
              have cq := hf6.cell cq (fun h => h)
              clear htx hxs hrec hf6 C6 hxl
              go_wp2_with fail
              refine (show Calls _ _ _ _ _ from HS.out).mono ?_
              rintro e w7 ⟨rfl, hf7⟩
              have CA7 := Lib.hid (CA0.out w7 (HF6.out.trans hf7))
              have HF7 := Lib.hid (HF6.out.trans hf7)
              clear hf7 HS
              go_wp2_with fail
              refine (show Calls _ _ _ _ _ from CA7.out).mono ?_
              rintro e w8 ⟨rfl, hf8⟩
              go_wp2_with fail
              go_ret
              exact ⟨rfl, HF7.out.trans hf8⟩
end Go.Proofs.YtcekgalppbfnhaaDoor
