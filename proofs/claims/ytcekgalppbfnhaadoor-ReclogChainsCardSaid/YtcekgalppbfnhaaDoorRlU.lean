/-
  The walk of the statement ReclogChains.
-/
import Derived.Test.YtcekgalppbfnhaaDoorRlR
import Derived.Test.YtcekgalppbfnhaaDoorRlS
namespace Go.Proofs.YtcekgalppbfnhaaDoor
set_option linter.unusedVariables false
open Go.RowKit

/-- The rounds of ReclogChains. -/
structure ChW (W W0 : World) (g d : Nat) (Z S j next p safe : Nat) (R : Nat → List (List UInt8)) (lt : List Tx) (v lv : Value) (m : Dev) (L F : Nat → Prop) (wr : World) : Prop where
  ld : Ld L wr g d F m lv (zsL next)
  ch : ChI m Z S next p R (lt.map Tx.b) safe
  row : RowG wr (Own1 v) 22 1 v lt.length (txC lt)
  vL : ∀ k, v.ownBlock = some k → ¬ L k
  LB : ∀ k, L k → W0.heap.size ≤ k
  vB : ∀ k, v.ownBlock = some k → W0.heap.size ≤ k
  fr : Fr No W0 wr
  rd : ∀ x ∈ lt, Rd W x.a x.b
  done : m.done ≤ j
  cnt : lt.length ≤ j
theorem ChW.keep {W W0 : World} {g d Z S j next p safe : Nat} {R : Nat → List (List UInt8)} {lt : List Tx} {v lv : Value} {m : Dev} {L F : Nat → Prop} {wr w' : World} (h : ChW W W0 g d Z S j next p safe R lt v lv m L F wr) (f : Fr No wr w') : ChW W W0 g d Z S j next p safe R lt v lv m L F w' :=
  ⟨h.ld.keep f (fun _ _ h => h), h.ch, h.row.keep f (fun _ _ h => h), h.vL, h.LB, h.vB, h.fr.trans f, h.rd, h.done, h.cnt⟩
/-- The log has moved on. -/
theorem ChW.move {W W0 : World} {g d Z S j j' next p safe next' p' safe' : Nat} {R R' : Nat → List (List UInt8)} {lt : List Tx} {v lv lv' : Value} {m m' : Dev} {L F F' : Nat → Prop} {wr w' : World} (h : ChW W W0 g d Z S j next p safe R lt v lv m L F wr)
    (hl : Ld (Gr L wr w') w' g d F' m' lv' (zsL next')) (f : Fr L wr w') (hc : ChI m' Z S next' p' R' (lt.map Tx.b) safe') (hd : m'.done ≤ j') (hj : j ≤ j') : ChW W W0 g d Z S j' next' p' safe' R' lt v lv' m' (Gr L wr w') F' w' :=
  ⟨hl, hc, h.row.keep f (fun k hk => h.vL k hk), fun k hk hg => hg.elim (h.vL k hk) fun hg => by
    have := (h.row.1.lt k hk).2
    omega, fun k hk => hk.elim (h.LB k) fun hk => Nat.le_trans h.fr.size hk.1, h.vB, h.fr.then_ f fun k hk e => by
    have := h.LB k e
    omega, h.rd, hd, Nat.le_trans h.cnt hj⟩
theorem ChW.later {W W0 : World} {g d Z S j j' next p safe : Nat} {R : Nat → List (List UInt8)} {lt : List Tx} {v lv : Value} {m : Dev} {L F : Nat → Prop} {wr : World} (h : ChW W W0 g d Z S j next p safe R lt v lv m L F wr) (hj : j ≤ j') : ChW W W0 g d Z S j' next p safe R lt v lv m L F wr :=
  ⟨h.ld, h.ch, h.row, h.vL, h.LB, h.vB, h.fr, h.rd, Nat.le_trans h.done hj, Nat.le_trans h.cnt hj⟩
theorem zsL_nil {n : Nat} : zsL n = [] ↔ n = 0 := by
  constructor
  · intro h
    have := congrArg List.length h
    rw [zsL_length] at this
    exact this
  · rintro rfl
    rfl
theorem appNo_ways {m : Dev} {next : Nat} {l : List UInt8} {k : Nat} (hk : l.length = k) : 
    (m.size < sizeL k ∧ appNo m (zsL next) l = some 201) ∨ (¬ m.size < sizeL k ∧ next = 0 ∧ appNo m (zsL next) l = some 81) ∨ (¬ m.size < sizeL k ∧ next ≠ 0 ∧ roomL m (zsL next) < (sizeL k : Int) ∧ appNo m (zsL next) l = some 73) ∨
    (¬ m.size < sizeL k ∧ next ≠ 0 ∧ ¬ roomL m (zsL next) < (sizeL k : Int) ∧ appNo m (zsL next) l = none) := by
  unfold appNo
  rw [hk]
  by_cases h1 : m.size < sizeL k
  · exact .inl ⟨h1, if_pos h1⟩
  · rw [if_neg h1]
    by_cases h2 : next = 0
    · exact .inr (.inl ⟨h1, h2, if_pos (zsL_nil.2 h2)⟩)
    · rw [if_neg fun h => h2 (zsL_nil.1 h)]
      by_cases h3 : roomL m (zsL next) < (sizeL k : Int)
      · exact .inr (.inr (.inl ⟨h1, h2, h3, if_pos h3⟩))
      · exact .inr (.inr (.inr ⟨h1, h2, h3, if_neg h3⟩))
theorem field_zones (x y z : Int) (w : World) : (Instr.field 35 (.agg #[.int .i64 x, .int .i64 y, .int .i64 z]) 0).run Tryd.prog w = .ok (.int .i64 x) w := by kernel_rfl
set_option maxRecDepth 100000 in
set_option maxHeartbeats 40000000 in
theorem reclogChains_walk (W : World) (ht : Tab W) (gz gs go : Int) (a : Option Addr) (cap : Nat) (l : List Tx) (fl : Int) (ka : Option Addr) (kc : Nat) (ks : List Int) (wz : (Lit.int .i64 gz).wf = true) (ws : (Lit.int .i64 gs).wf = true) (wo : (Lit.int .i64 go).wf = true)
    (hc : l.length ≤ cap) (hm : cap ≤ maxLen) (hr : Texts W a l) (wf : (Lit.int .i64 fl).wf = true) (hkc : ks.length ≤ kc) (hkm : kc ≤ maxLen) (hks : Ints W ka ks) :
    Calls Tryd.prog 6 #[.agg #[.int .i64 gz, .int .i64 gs, .int .i64 go, .slice a l.length cap, .int .i64 fl, .slice ka ks.length kc]] W fun e W' => e = .returned (.bool true) ∧ Below W.heap.size W W' := by
  refine Calls.mono (R := Ask (.bool true) W) ?_ fun e w' h => h.post
  have HT0 := Lib.hid ht
  obtain ⟨W0, hW0⟩ : ∃ W0, W.alloc (.cells #[.int .i64 gz, .int .i64 gs, .int .i64 go, .slice a l.length cap, .int .i64 fl, .slice ka ks.length kc] 37) = W0 := ⟨_, rfl⟩
  have hf0 : Fr No W W0 := by rw [← hW0]; exact (Fr.refl No W).alloc _
  have A0 : At W0 W.heap.size 37 #[.int .i64 gz, .int .i64 gs, .int .i64 go, .slice a l.length cap, .int .i64 fl, .slice ka ks.length kc] := by rw [← hW0]; exact At.new _ _ _
  have CS := Lib.hid (fun (w : World) (f : Fr No W w) => small9_c a cap l 80 w (Nat.le_trans hc hm) (hr.keep f))
  unfold maxLen at hm
  have CA := Lib.hid (fun w (f : Fr No W w) => awake9_c w (ht.keep f (fun h => h)))
  have CN := Lib.hid (fun w => new_c gz gs go w)
  have CK := Lib.hid (fun w => check_c gz gs go w)
  have hW := Lib.hid hW0
  have HF0 := Lib.hid hf0
  have c0 := A0.cell 0
  have c1 := A0.cell 1
  have c2 := A0.cell 2
  have c3 := A0.cell 3
  have c4 := A0.cell 4
  have c5 := A0.cell 5
  simp at c0 c1 c2 c3 c4 c5
  have HPN : ∀ (b : Nat) (w : World), (binOp .eql 38 (.pointer (some ⟨b, 0, none⟩)) (.pointer none)).run Tryd.prog w = .ok (.bool false) w := fun _ _ => rfl
  have HPM : ∀ (b : Nat) (w : World), (binOp .neq 38 (.pointer (some ⟨b, 0, none⟩)) (.pointer none)).run Tryd.prog w = .ok (.bool true) w := fun _ _ => rfl
  have HP0 : ∀ (w : World), (binOp .eql 38 (.pointer none) (.pointer none)).run Tryd.prog w = .ok (.bool true) w := fun _ => rfl
  have HP1 : ∀ (w : World), (binOp .neq 38 (.pointer none) (.pointer none)).run Tryd.prog w = .ok (.bool false) w := fun _ => rfl
  have HPL : ∀ (b : Nat) (w : World), (binOp .eql 40 (.pointer (some ⟨b, 0, none⟩)) (.pointer none)).run Tryd.prog w = .ok (.bool false) w := fun _ _ => rfl
  clear A0 hf0 hW0
  cases hg : rightG gz gs go with
  | false =>
    rw [hg] at CK
    have HG := Lib.hid hg
    clear hr ht hg hks hkc hkm
    generalize l.length = nl at *
    generalize ks.length = nk at *
    go_enter Tryd.func6, Tryd.ntmps6
    go_wp2_with fail
    all_goals rw [hW.out]
    refine (CN.out _).mono ?_
    rintro e w1 ⟨hf1, hno, _⟩
    obtain rfl := hno HG.out
    have HF1 := Lib.hid (HF0.out.trans hf1)
    have c0 := hf1.cell c0 (fun h => h)
    have c1 := hf1.cell c1 (fun h => h)
    have c2 := hf1.cell c2 (fun h => h)
    clear hno hf1
    go_wp2_with fail
    refine (CK.out _).mono ?_
    rintro e w2 ⟨rfl, hf2⟩
    have HF2 := Lib.hid (HF1.out.trans hf2)
    have CA2 := Lib.hid (CA.out w2 (HF1.out.trans hf2))
    clear hf2
    go_wp2_with fail
    refine (show Calls _ _ _ _ _ from CA2.out).mono ?_
    rintro e w3 ⟨rfl, hf3⟩
    go_wp2_with fail
    go_ret
    exact ⟨rfl, HF2.out.trans hf3⟩
  | true =>
    rw [hg] at CK
    obtain ⟨g1, g2, g3, g4, g5, g6⟩ := rightG_iff.1 hg
    obtain ⟨Z, rfl⟩ : ∃ k : Nat, gz = (k : Int) := ⟨gz.toNat, by omega⟩
    obtain ⟨S, rfl⟩ : ∃ k : Nat, gs = (k : Int) := ⟨gs.toNat, by omega⟩
    have HG := Lib.hid hg
    have hch := ChI.new hg
    rw [Int.toNat_natCast, Int.toNat_natCast] at hch
    have HCH := Lib.hid hch
    clear hg hch
    cases hsm : small9 l 80 with
    | false =>
      rw [hsm] at CS
      clear hr ht hsm hks hkc hkm
      generalize l.length = nl at *
      generalize ks.length = nk at *
      go_enter Tryd.func6, Tryd.ntmps6
      go_wp2_with fail
      all_goals rw [hW.out]
      refine (CN.out _).mono ?_
      rintro e w1 ⟨hf1, _, hgo⟩
      obtain ⟨d, F, rfl, hd, hFB⟩ := hgo HG.out
      have HF1 := Lib.hid (HF0.out.trans hf1)
      have HF01 := Lib.hid hf1
      have HD := Lib.hid hd
      have HFB := Lib.hid hFB
      have d0c := c0
      have d1c := c1
      have d3c := c3
      have d4c := c4
      have d5c := c5
      have c0 := hf1.cell c0 (fun h => h)
      have c1 := hf1.cell c1 (fun h => h)
      have c2 := hf1.cell c2 (fun h => h)
      have c3 := hf1.cell c3 (fun h => h)
      clear hgo hf1 hd hFB CN
      go_wp2_with fail
      refine (CS.out w1 HF1.out).mono ?_
      rintro e w2 ⟨rfl, rfl⟩
      go_wp2_with fail
      refine (CK.out _).mono ?_
      rintro e w2 ⟨rfl, hf2⟩
      have HF2 := Lib.hid (HF1.out.trans hf2)
      have CA2 := Lib.hid (CA.out w2 (HF1.out.trans hf2))
      clear hf2
      go_wp2_with fail
      refine (show Calls _ _ _ _ _ from CA2.out).mono ?_
      rintro e w3 ⟨rfl, hf3⟩
      go_wp2_with fail
      go_ret
      exact ⟨rfl, HF2.out.trans hf3⟩
    | true =>
      rw [hsm] at CS
      obtain ⟨h80, h300⟩ := small9_yes hsm
      by_cases hS3 : 3000 < S
      · have d3 : decide ((3000 : Int) < (S : Int)) = true := by rw [decide_eq_true_eq]; omega
        clear hr ht hsm hks hkc hkm h80 h300
        generalize l.length = nl at *
        generalize ks.length = nk at *
        go_enter Tryd.func6, Tryd.ntmps6
        go_wp2_with fail
        all_goals rw [hW.out]
        refine (CN.out _).mono ?_
        rintro e w1 ⟨hf1, _, hgo⟩
        obtain ⟨d, F, rfl, hd, hFB⟩ := hgo HG.out
        have HF1 := Lib.hid (HF0.out.trans hf1)
        have HF01 := Lib.hid hf1
        have HD := Lib.hid hd
        have HFB := Lib.hid hFB
        have d0c := c0
        have d1c := c1
        have d3c := c3
        have d4c := c4
        have d5c := c5
        have c0 := hf1.cell c0 (fun h => h)
        have c1 := hf1.cell c1 (fun h => h)
        have c2 := hf1.cell c2 (fun h => h)
        have c3 := hf1.cell c3 (fun h => h)
        clear hgo hf1 hd hFB CN
        go_wp2_with fail
        refine (CS.out w1 HF1.out).mono ?_
        rintro e w2 ⟨rfl, rfl⟩
        go_wp2_with fail
        refine (CK.out _).mono ?_
        rintro e w2 ⟨rfl, hf2⟩
        have HF2 := Lib.hid (HF1.out.trans hf2)
        have CA2 := Lib.hid (CA.out w2 (HF1.out.trans hf2))
        clear hf2
        go_wp2_with fail
        refine (show Calls _ _ _ _ _ from CA2.out).mono ?_
        rintro e w3 ⟨rfl, hf3⟩
        go_wp2_with fail
        go_ret
        exact ⟨rfl, HF2.out.trans hf3⟩
      · have H300 := Lib.hid h300
        have HREC := Lib.hid hr.recs
        have CTB := Lib.hid (fun (w : World) (f : Fr No W w) => ht.keep f (fun h => h))
        have HKS := Lib.hid hks
        obtain ⟨nl, hn1⟩ : ∃ n, l.length = n := ⟨_, rfl⟩
        have HN := Lib.hid hn1
        have HWF := Lib.hid wf
        have hfl := wf_out wf
        rw [hn1] at CS hc c3 hW h80
        rw [hn1]
        have HKC := Lib.hid (And.intro hkc hkm)
        clear hr ht hsm hks hn1 h300 wf wz ws wo hkc hkm
        go_enter Tryd.func6, Tryd.ntmps6
        go_wp2_with fail
        all_goals rw [hW.out]
        refine (CN.out _).mono ?_
        rintro e w1 ⟨hf1, _, hgo⟩
        obtain ⟨d, F, rfl, hd, hFB⟩ := hgo HG.out
        have HF1 := Lib.hid (HF0.out.trans hf1)
        have HF01 := Lib.hid hf1
        have HD := Lib.hid hd
        have HFB := Lib.hid hFB
        have d0c := c0
        have d1c := c1
        have d3c := c3
        have d4c := c4
        have d5c := c5
        have c0 := hf1.cell c0 (fun h => h)
        have c1 := hf1.cell c1 (fun h => h)
        have c2 := hf1.cell c2 (fun h => h)
        have c3 := hf1.cell c3 (fun h => h)
        clear hgo hf1 hd hFB CN
        go_wp2_with fail
        refine (CS.out w1 HF1.out).mono ?_
        rintro e w2 ⟨rfl, rfl⟩
        go_wp2_with fail
        have CL := lnew_c (L := F) HD.out (fun k hk => hk) (fun k hk => HD.out.1 k hk) none 0 0 [] rfl (by omega) (fun h => absurd h (by simp))
        refine (show Calls _ _ _ _ _ from CL).mono ?_
        rintro e w3 ⟨g, lv, rfl, hld, hf3⟩
        have HI0 : Hid (ChW W W0 g d Z S 0 0 0 0 (fun _ => []) [] (.slice none 0 0) lv (newM (Z : Int) (S : Int) go) (Gr F w1 w3) F w3) := Lib.hid
          ⟨hld, HCH.out, RowG.nil _ _ _ _, fun k h => absurd h (by simp [Value.ownBlock]), fun k hk => hk.elim (HFB.out k) fun hk => Nat.le_trans HF01.out.size hk.1, fun k h => absurd h (by simp [Value.ownBlock]), HF01.out.trans hf3, fun x h => absurd h (List.not_mem_nil), Nat.le_refl _, Nat.le_refl _⟩
        have CR := lroom_c HI0.out.ld HI0.out.ch.live.wf (by simp [zsL])
        rw [show roomL (newM (Z : Int) (S : Int) go) (zsL 0) = 0 from rfl] at CR
        have HF3 := Lib.hid (HF01.out.trans hf3)
        clear hld hf3 CL
        go_wp2_with fail
        refine (show Calls _ _ _ _ _ from CR).mono ?_
        rintro e w4 ⟨rfl, hf4⟩
        have HI1 := Lib.hid (HI0.out.keep hf4)
        have c3 := (HF3.out.trans hf4).cell d3c (fun h => h)
        clear CR hf4 HI0 HF3
        go_wp2_with fail
        go_loopw [5, 6, 7, 60] (fun v ne sa i wr => ∃ (j next p safe : Nat) (R : Nat → List (List UInt8)) (lt : List Tx) (lv : Value) (m : Dev) (L F : Nat → Prop), i = .int .i64 j ∧ j ≤ nl ∧ ne = .int .i64 next ∧ sa = .int .i64 safe ∧ ChW W W0 g d Z S (3 * j) next p safe R lt v lv m L F wr) (fun _ _ _ i _ => nl - (intOf i).toNat)
        case atStart => exact ⟨0, 0, 0, 0, _, [], _, _, _, _, rfl, Nat.zero_le _, rfl, rfl, HI1.out⟩
        case round =>
          clear HI1 HD HFB HF1 HF01
          obtain ⟨j, next, p, safe, R, lt, lv', m, L, F', rfl, hj, rfl, rfl, hI⟩ := hrel
          have hcn := hI.cnt
          have HI := Lib.hid hI
          have c4 := hI.fr.cell d4c (fun h => h)
          obtain ⟨va, vc, rfl, v1, v2, _⟩ := hI.row.form
          unfold maxLen at v2
          obtain ⟨ltn, hltn⟩ : ∃ n, lt.length = n := ⟨_, rfl⟩
          rw [hltn] at HI v1 hcn
          rw [hltn]
          have HLT := Lib.hid hltn
          by_cases h1 : j < nl
          · have d1 : decide ((j : Int) < (nl : Int)) = true := by rw [decide_eq_true_eq]; omega
            obtain ⟨b, o, rfl, hx⟩ := HREC.out (by rw [HN.out]; omega)
            obtain ⟨x, hxj⟩ : ∃ x, l[j]? = some x := ⟨_, List.getElem?_eq_getElem (by rw [HN.out]; exact h1)⟩
            have qc := ((hx j x hxj).keep (HF0.out.trans hI.fr)).c0
            have hle := H300.out j x hxj
            have HXR := Lib.hid (hx j x hxj).rd
            obtain ⟨k, hmx⟩ : ∃ k, x.b.length = k := ⟨_, rfl⟩
            rw [hmx] at qc hle
            obtain ⟨za, zc, zb⟩ := x
            simp only at qc hmx HXR
            clear hI hx hxj hltn
            obtain ⟨v, hv⟩ : ∃ u, Value.slice va ltn vc = u := ⟨_, rfl⟩
            by_cases hfj : (j : Int) = fl
            · have e_f : ((j : Int) == fl) = true := by rw [hfj]; exact beq_self_eq_true fl
              clear hfj
              rw [hv] at HI
              have CS := lsync_c HI.out.ld HI.out.ch.live.wf (by have := HI.out.done; omega)
              obtain ⟨fl1, fl2, fl3⟩ := HI.out.ch.flush
              rw [fl3] at CS
              have CS := Lib.hid CS
              have FL := Lib.hid (And.intro fl1 fl2)
              rw [List.length_map, HLT.out] at FL
              clear fl1 fl2 fl3
              subst hv
              go_wp2_with fail
              refine (show Calls _ _ _ _ _ from CS.out).mono ?_
              rintro e w4 ⟨rfl, ⟨F4, hl4⟩, hf4⟩
              have HI := Lib.hid (HI.out.move (j' := 3 * j + 1) hl4 hf4 FL.out.1 (by rw [FL.out.2]; have := HI.out.done; omega) (by omega))
              clear hl4 hf4 CS FL
              obtain ⟨m, hm0⟩ : ∃ y, fluM m = y := ⟨_, rfl⟩
              rw [hm0] at HI
              clear hm0
              obtain ⟨L, hL0⟩ : ∃ y, Gr L wr w4 = y := ⟨_, rfl⟩
              rw [hL0] at HI
              clear hL0
              obtain ⟨p, hp0⟩ : ∃ y, (R (next - 1)).length = y := ⟨_, rfl⟩
              rw [hp0] at HI
              clear hp0
              obtain ⟨v, hv⟩ : ∃ u, Value.slice va ltn vc = u := ⟨_, rfl⟩
              rw [hv] at HI
              by_cases hk0 : k = 0
              · subst hv
                subst hk0
                have CS := lsync_c HI.out.ld HI.out.ch.live.wf (by have := HI.out.done; omega)
                obtain ⟨fl1, fl2, fl3⟩ := HI.out.ch.flush
                rw [fl3] at CS
                have CS := Lib.hid CS
                have FL := Lib.hid (And.intro fl1 fl2)
                rw [List.length_map, HLT.out] at FL
                clear fl1 fl2 fl3
                go_wp2_with fail
                refine (show Calls _ _ _ _ _ from CS.out).mono ?_
                rintro e w5 ⟨rfl, ⟨F5, hl5⟩, hf5⟩
                have HI5 := Lib.hid (HI.out.move (j' := (3 * j + 1) + 1) hl5 hf5 FL.out.1 (by rw [FL.out.2]; have := HI.out.done; omega) (by omega))
                clear hl5 hf5 CS
                have CG := lgrow_c HI5.out.ld HI5.out.ch.live.wf (by rw [zsL_length]; have := HI5.out.ch.nx; omega) (next : Int)
                obtain ⟨gr1, gr2⟩ := HI5.out.ch.grow
                by_cases hnz : next < Z
                · rw [gr1, decide_eq_true hnz] at CG
                  simp only [if_true] at CG
                  rw [← zsL_succ] at CG
                  have CG := Lib.hid CG
                  have GR := Lib.hid (gr2 hnz)
                  clear gr1 gr2
                  go_wp2_with fail
                  refine (show Calls _ _ _ _ _ from CG.out).mono ?_
                  rintro e w6 ⟨rfl, ⟨lv6, hl6⟩, hf6⟩
                  have HI6 := Lib.hid (HI5.out.move (j' := 3 * (j + 1)) hl6 hf6 GR.out (by have := HI5.out.done; omega) (by omega))
                  have c0 := HI6.out.fr.cell d0c (fun h => h)
                  clear hl6 hf6 CG
                  go_wp2_with fail
                  go_roundw
                  case rel => exact ⟨j + 1, next + 1, 0, ltn, R, lt, lv6, _, _, _, by simp, by omega, by simp, rfl, HI6.out⟩
                  case measure => simp [intOf]; omega
                · rw [gr1, decide_eq_false hnz] at CG
                  simp only [Bool.false_eq_true, if_false] at CG
                  have CG := Lib.hid CG
                  clear gr1 gr2
                  go_wp2_with fail
                  refine (show Calls _ _ _ _ _ from CG.out).mono ?_
                  rintro e w6 ⟨rfl, ⟨lv6, hl6⟩, hf6⟩
                  have HI6 := Lib.hid (HI5.out.move (j' := 3 * (j + 1)) hl6 hf6 HI5.out.ch (by have := HI5.out.done; omega) (by omega))
                  have c0 := HI6.out.fr.cell d0c (fun h => h)
                  clear hl6 hf6 CG
                  go_wp2_with fail
                  go_roundw
                  case rel => exact ⟨j + 1, next, _, ltn, R, lt, lv6, _, _, _, by simp, by omega, rfl, rfl, HI6.out⟩
                  case measure => simp [intOf]; omega
              · subst hv
                have e_k : ((k : Int) == 0) = false := by rw [beq_eq_false_iff_ne]; omega
                have CZ := Lib.hid (fun w => fsize_c k w (by omega))
                have CR := Lib.hid (lroom_c HI.out.ld HI.out.ch.live.wf (by rw [zsL_length]; have := HI.out.ch.nx; omega))
                go_wp2_with fail
                refine (CZ.out _).mono ?_
                rintro e w' ⟨rfl, rfl⟩
                go_wp2_with fail
                refine (show Calls _ _ _ _ _ from CR.out).mono ?_
                rintro e w5 ⟨rfl, hf5⟩
                have HI5 := Lib.hid (HI.out.keep hf5)
                have HW5 := Lib.hid (HF0.out.trans HI5.out.fr)
                have CAP := lappend_c HI5.out.ld HI5.out.ch.live.wf (by have := HI5.out.done; omega) (by rw [zsL_length]; have := HI5.out.ch.nx; omega) za k zc zb hmx (by omega) (HXR.out.keep HW5.out) (CTB.out w5 HW5.out)
                have happ := HI5.out.ch.app zb (by rw [hmx]; exact hle)
                have hways := appNo_ways (m := m) (next := next) hmx
                rw [HI5.out.ch.sz] at hways
                have HK := Lib.hid hmx
                clear hf5 CR hmx
                rcases hways with ⟨q1, q9⟩ | ⟨q1, q2, q9⟩ | ⟨q1, q2, q3, q9⟩ | ⟨q1, q2, q3, q9⟩
                · obtain ⟨hT, hD⟩ : appT m (zsL next) zb = (0, 0, 201) ∧ appDv m (zsL next) zb = m := by
                    rcases happ with ⟨e, g1, g2, g3⟩ | ⟨g1, _⟩ | ⟨_, _, _, g1, _⟩
                    · rw [q9] at g1
                      cases g1
                      exact ⟨g2, g3⟩
                    · rw [q9] at g1; cases g1
                    · rw [q9] at g1; cases g1
                  rw [hT, hD] at CAP
                  have CAP := Lib.hid CAP
                  have dS : decide ((S : Int) < ((sizeL k : Nat) : Int)) = true := by rw [decide_eq_true_eq]; omega
                  clear happ hT hD q9
                  generalize roomL m (zsL next) = rl at *
                  obtain ⟨sk, hsk⟩ : ∃ x, sizeL k = x := ⟨_, rfl⟩
                  rw [hsk] at dS q1 ⊢
                  clear hsk
                  go_wp2_with fail
                  refine (show Calls _ _ _ _ _ from CAP.out).mono ?_
                  rintro e w6 ⟨rfl, ⟨F6, hl6⟩, hf6⟩
                  have HI6 := Lib.hid (HI5.out.move (j' := 3 * (j + 1)) hl6 hf6 HI5.out.ch (by have := HI5.out.done; omega) (by omega))
                  have c1 := HI6.out.fr.cell d1c (fun h => h)
                  clear hl6 hf6 CAP
                  go_wp2_with fail
                  go_roundw
                  case rel => exact ⟨j + 1, _, _, _, _, lt, _, _, _, _, by simp, by omega, rfl, rfl, HI6.out⟩
                  case measure => simp [intOf]; omega
                · obtain ⟨hT, hD⟩ : appT m (zsL next) zb = (0, 0, 81) ∧ appDv m (zsL next) zb = m := by
                    rcases happ with ⟨e, g1, g2, g3⟩ | ⟨g1, _⟩ | ⟨_, _, _, g1, _⟩
                    · rw [q9] at g1
                      cases g1
                      exact ⟨g2, g3⟩
                    · rw [q9] at g1; cases g1
                    · rw [q9] at g1; cases g1
                  rw [hT, hD] at CAP
                  have CAP := Lib.hid CAP
                  have dS : decide ((S : Int) < ((sizeL k : Nat) : Int)) = false := by rw [decide_eq_false_iff_not]; omega
                  have dn : ((next : Int) == 0) = true := by rw [q2]; rfl
                  clear happ hT hD q9
                  subst q2
                  clear dn
                  generalize roomL m (zsL 0) = rl at *
                  obtain ⟨sk, hsk⟩ : ∃ x, sizeL k = x := ⟨_, rfl⟩
                  rw [hsk] at dS q1 ⊢
                  clear hsk
                  go_wp2_with fail
                  refine (show Calls _ _ _ _ _ from CAP.out).mono ?_
                  rintro e w6 ⟨rfl, ⟨F6, hl6⟩, hf6⟩
                  have HI6 := Lib.hid (HI5.out.move (j' := 3 * (j + 1)) hl6 hf6 HI5.out.ch (by have := HI5.out.done; omega) (by omega))
                  have c1 := HI6.out.fr.cell d1c (fun h => h)
                  clear hl6 hf6 CAP
                  go_wp2_with fail
                  go_roundw
                  case rel => exact ⟨j + 1, _, _, _, _, lt, _, _, _, _, by simp, by omega, rfl, rfl, HI6.out⟩
                  case measure => simp [intOf]; omega
                · obtain ⟨hT, hD⟩ : appT m (zsL next) zb = (0, 0, 73) ∧ appDv m (zsL next) zb = m := by
                    rcases happ with ⟨e, g1, g2, g3⟩ | ⟨g1, _⟩ | ⟨_, _, _, g1, _⟩
                    · rw [q9] at g1
                      cases g1
                      exact ⟨g2, g3⟩
                    · rw [q9] at g1; cases g1
                    · rw [q9] at g1; cases g1
                  rw [hT, hD] at CAP
                  have CAP := Lib.hid CAP
                  have dS : decide ((S : Int) < ((sizeL k : Nat) : Int)) = false := by rw [decide_eq_false_iff_not]; omega
                  have dn : ((next : Int) == 0) = false := by rw [beq_eq_false_iff_ne]; omega
                  have dr : decide (roomL m (zsL next) < (sizeL k : Int)) = true := by rw [decide_eq_true_eq]; exact q3
                  clear happ hT hD q9
                  clear q3
                  generalize roomL m (zsL next) = rl at *
                  obtain ⟨sk, hsk⟩ : ∃ x, sizeL k = x := ⟨_, rfl⟩
                  rw [hsk] at dS q1 dr ⊢
                  clear hsk
                  go_wp2_with fail
                  refine (show Calls _ _ _ _ _ from CAP.out).mono ?_
                  rintro e w6 ⟨rfl, ⟨F6, hl6⟩, hf6⟩
                  have HI6 := Lib.hid (HI5.out.move (j' := 3 * (j + 1)) hl6 hf6 HI5.out.ch (by have := HI5.out.done; omega) (by omega))
                  have c1 := HI6.out.fr.cell d1c (fun h => h)
                  clear hl6 hf6 CAP
                  go_wp2_with fail
                  go_roundw
                  case rel => exact ⟨j + 1, _, _, _, _, lt, _, _, _, _, by simp, by omega, rfl, rfl, HI6.out⟩
                  case measure => simp [intOf]; omega
                · have dS : decide ((S : Int) < ((sizeL k : Nat) : Int)) = false := by rw [decide_eq_false_iff_not]; omega
                  have dn : ((next : Int) == 0) = false := by rw [beq_eq_false_iff_ne]; omega
                  have dr : decide (roomL m (zsL next) < (sizeL k : Int)) = false := by rw [decide_eq_false_iff_not]; exact q3
                  clear q3
                  rcases happ with ⟨e, g1, g2, g3⟩ | ⟨g1, hT, hD⟩ | ⟨at_, hn0, hat, g1, hT, hdn, hpt, hpl, hra, R', hch⟩
                  · rw [q9] at g1
                    cases g1
                  · rw [hT, hD] at CAP
                    have CAP := Lib.hid CAP
                    clear hT hD q9 g1
                    generalize roomL m (zsL next) = rl at *
                    obtain ⟨sk, hsk⟩ : ∃ x, sizeL k = x := ⟨_, rfl⟩
                    rw [hsk] at dS q1 dr ⊢
                    clear hsk
                    go_wp2_with fail
                    refine (show Calls _ _ _ _ _ from CAP.out).mono ?_
                    rintro e w6 ⟨rfl, ⟨F6, hl6⟩, hf6⟩
                    have HI6 := Lib.hid (HI5.out.move (j' := 3 * (j + 1)) hl6 hf6 HI5.out.ch (by have := HI5.out.done; omega) (by omega))
                    have c1 := HI6.out.fr.cell d1c (fun h => h)
                    clear hl6 hf6 CAP
                    go_wp2_with fail
                    go_roundw
                    case rel => exact ⟨j + 1, next, _, _, _, lt, _, _, _, _, by simp, by omega, rfl, rfl, HI6.out⟩
                    case measure => simp [intOf]; omega
                  · rw [hT] at CAP
                    obtain ⟨m6, hm6⟩ : ∃ x, appDv m (zsL next) zb = x := ⟨_, rfl⟩
                    rw [hm6] at CAP hdn hpt hra hch
                    have hzk : sizeL zb.length = sizeL k := by rw [HK.out]
                    rw [hzk] at hpt hpl hra
                    have CAP := Lib.hid CAP
                    have HRA := Lib.hid hra
                    have HCH := Lib.hid hch
                    have HPT := Lib.hid hpt
                    have HDN := Lib.hid hdn
                    clear hT q9 g1 hm6 hzk hdn hpt hra hch
                    generalize roomL m (zsL next) = rl at *
                    have hskl := sizeL_le (n := k) (by omega)
                    have CZZ := Lib.hid (fun w => fsize_c k w (by omega))
                    obtain ⟨sk, hsk⟩ : ∃ x, sizeL k = x := ⟨_, rfl⟩
                    rw [hsk] at dS q1 dr HPT HRA hpl hskl CZZ ⊢
                    clear hsk
                    obtain ⟨nx, hnx⟩ : ∃ y, next = y + 1 := ⟨next - 1, by omega⟩
                    rw [show next - 1 = nx by omega] at CAP HPT HRA
                    obtain ⟨pt, hpt0⟩ : ∃ y : Int, ((at_ + sk : Nat) : Int) = y := ⟨_, rfl⟩
                    rw [hpt0] at HPT
                    have e_p : ((nx : Int) != (next : Int) - 1) = false := by rw [bne_eq_false_iff_eq]; omega
                    have e_q : ((at_ : Int) != pt - (sk : Int)) = false := by rw [bne_eq_false_iff_eq]; omega
                    have hptb : 0 ≤ pt := by omega
                    have hptc : pt ≤ 65536 := by omega
                    have hnb : next ≤ 64 := by
                      have := HI5.out.ch.nx
                      omega
                    have HNX := Lib.hid hnx
                    clear hnx hpt0
                    go_wp2_with fail
                    refine (show Calls _ _ _ _ _ from CAP.out).mono ?_
                    rintro e w6 ⟨rfl, ⟨F6, hl6⟩, hf6⟩
                    have HW6 : Hid (Fr No W0 w6) := Lib.hid (HI5.out.fr.then_ hf6 fun k hk e => by
                      have := HI5.out.LB k e
                      omega)
                    have HL6 := Lib.hid hl6
                    have HROW6 := Lib.hid (HI5.out.row.keep hf6 (fun k hk => HI5.out.vL k hk))
                    have hv6 : ∀ q, (Value.slice va ltn vc).ownBlock = some q → ¬ Gr L w5 w6 q := fun q hq hg => hg.elim (HI5.out.vL q hq) fun hg => by
                      have := (HI5.out.row.1.lt q hq).2
                      omega
                    have HV6 := Lib.hid hv6
                    have HLB6 : Hid (∀ k, Gr L w5 w6 k → W0.heap.size ≤ k) := Lib.hid fun k hk => hk.elim (HI5.out.LB k) fun hk => Nat.le_trans HI5.out.fr.size hk.1
                    have c1 := HW6.out.cell d1c (fun h => h)
                    have CP6 := Lib.hid (pointer_c hl6.dz HCH.out.live.wf (nx : Int))
                    rw [HPT.out] at CP6
                    have CR6 := Lib.hid (lroom_c hl6 HCH.out.live.wf (by rw [zsL_length]; have := HCH.out.nx; omega))
                    have hrl : roomL m6 (zsL next) = roomM m6 (nx : Int) := by rw [HNX.out]; unfold roomL; rw [if_neg (fun h => by have := zsL_nil.1 h; omega), zsL_last]
                    rw [hrl] at CR6
                    have CD6 := Lib.hid (fun w (f : Fr No w6 w) => room_c (hl6.dz.keep f (fun _ _ h => h)) HCH.out.live.wf (nx : Int))
                    have CRA := Lib.hid (fun w (f : Fr No w6 w) => lreadat_c (hl6.keep f (fun _ _ h => h)) HCH.out.live.wf (CTB.out w ((HF0.out.trans HW6.out).trans f)) (nx : Int) (at_ : Int) (k : Int) (sk : Int) (wf_small (by omega) (by omega)) (wf_small (by omega) (by omega)) CZZ.out)
                    rw [HRA.out] at CRA
                    clear hl6 hf6 hv6 hrl CAP
                    generalize roomM m6 (nx : Int) = rm at *
                    go_wp2_with fail
                    refine (show Calls _ _ _ _ _ from CP6.out).mono ?_
                    rintro e w' ⟨rfl, rfl⟩
                    go_wp2_with fail
                    refine (show Calls _ _ _ _ _ from CR6.out).mono ?_
                    rintro e w7 ⟨rfl, hf7⟩
                    have CD7 := Lib.hid (CD6.out w7 hf7)
                    have HF7 := Lib.hid hf7
                    clear hf7 CR6 CD6 CP6
                    go_wp2_with fail
                    refine (show Calls _ _ _ _ _ from CD7.out).mono ?_
                    rintro e w8 ⟨rfl, hf8⟩
                    have CR8 := Lib.hid (CRA.out w8 (HF7.out.trans hf8))
                    have HF8 := Lib.hid (HF7.out.trans hf8)
                    clear hf8 CD7 CRA
                    go_wp2_with fail
                    refine (show Calls _ _ _ _ _ from CR8.out).mono ?_
                    rintro e w9 ⟨ra, rc, rfl, rin, rf⟩
                    simp only
                    rw [HK.out]
                    have HF9 := Lib.hid (HF8.out.trans rf)
                    have CSA := Lib.hid (same_yes (cap := rc) (cap' := zc) HK.out HK.out rin.rd (HXR.out.keep ((HF0.out.trans HW6.out).trans (HF8.out.trans rf))) rfl)
                    clear rin rf CR8
                    have hcnt := HI5.out.cnt
                    obtain ⟨v10, W10, hrun, hrow10, hf10⟩ := RowG.push rowTx (HROW6.out.keep HF9.out (fun _ _ h => h)) (fun q hq => ((HROW6.out.keep HF9.out (fun _ _ h => h)).1.lt q hq).2) [txV ⟨za, zc, zb⟩] rfl (by intro u hu; rw [List.mem_singleton.1 hu]; rfl) (by omega) (by omega)
                    rw [show [txV ⟨za, zc, zb⟩].toArray = #[Value.slice za k zc] by rw [← HK.out]; rfl] at hrun
                    obtain ⟨ya, yc, rfl, _⟩ := hrow10.form
                    have hnew : ∀ q, (Value.slice ya (lt.length + 1) yc).ownBlock = some q → (Value.slice va ltn vc).ownBlock = some q ∨ w9.heap.size ≤ q := fun q hq => (hrow10.2 q hq).elim .inl fun h => .inr h.1
                    have HI10 : Hid (ChW W W0 g d Z S (3 * (j + 1)) next p ltn R' (lt ++ [⟨za, zc, zb⟩]) (.slice ya (lt.length + 1) yc) lv' m6 (Gr L w5 w6) F6 W10) := Lib.hid
                      ⟨(HL6.out.keep HF9.out (fun _ _ h => h)).keep hf10 (fun q hq h => HV6.out q h hq), by rw [List.map_append]; exact HCH.out,
                        by rw [List.length_append]; unfold txC; rw [List.map_append]; exact ⟨hrow10.1, fun q hq => hq⟩,
                        fun q hq hg => (hnew q hq).elim (fun h => HV6.out q h hg) fun h => by
                          have := HL6.out.low q hg
                          have := HF9.out.size
                          omega, HLB6.out, fun q hq => (hnew q hq).elim (HI5.out.vB q) fun h => by
                          have := HW6.out.size
                          have := HF9.out.size
                          omega, (HW6.out.trans HF9.out).then_ hf10 fun q hq h => by
                          have := HI5.out.vB q h
                          omega, fun x hx => (List.mem_append.1 hx).elim (HI5.out.rd x) fun hx => by rw [List.mem_singleton.1 hx]; exact HXR.out, by rw [HDN.out]; have := HI5.out.done; omega, by rw [List.length_append, List.length_singleton]; omega⟩
                    have HLN : Hid (lt.length = ltn) := HLT
                    rw [HLN.out] at hrun HI10
                    have HRUN := Lib.hid hrun
                    clear hrun hrow10 hf10 hnew HL6 HROW6 HLB6 HV6
                    go_wp2_with fail
                    refine (show Calls _ _ _ _ _ from CSA.out).mono ?_
                    rintro e w10 ⟨rfl, rfl⟩
                    go_wp2_with (at_builtin; refine wpList_append_run rfl _ _ 25 rfl rfl rfl HRUN.out ?_)
                    go_roundw
                    case rel => exact ⟨j + 1, next, p, ltn, R', lt ++ [⟨za, zc, zb⟩], _, m6, _, F6, by simp, by omega, rfl, rfl, HI10.out⟩
                    case measure => simp [intOf]; omega
            · have e_f : ((j : Int) == fl) = false := by rw [beq_eq_false_iff_ne]; exact hfj
              clear hfj
              have HI := Lib.hid (HI.out.later (j' := 3 * j + 1) (by omega))
              rw [hv] at HI
              by_cases hk0 : k = 0
              · subst hv
                subst hk0
                have CS := lsync_c HI.out.ld HI.out.ch.live.wf (by have := HI.out.done; omega)
                obtain ⟨fl1, fl2, fl3⟩ := HI.out.ch.flush
                rw [fl3] at CS
                have CS := Lib.hid CS
                have FL := Lib.hid (And.intro fl1 fl2)
                rw [List.length_map, HLT.out] at FL
                clear fl1 fl2 fl3
                go_wp2_with fail
                refine (show Calls _ _ _ _ _ from CS.out).mono ?_
                rintro e w5 ⟨rfl, ⟨F5, hl5⟩, hf5⟩
                have HI5 := Lib.hid (HI.out.move (j' := (3 * j + 1) + 1) hl5 hf5 FL.out.1 (by rw [FL.out.2]; have := HI.out.done; omega) (by omega))
                clear hl5 hf5 CS
                have CG := lgrow_c HI5.out.ld HI5.out.ch.live.wf (by rw [zsL_length]; have := HI5.out.ch.nx; omega) (next : Int)
                obtain ⟨gr1, gr2⟩ := HI5.out.ch.grow
                by_cases hnz : next < Z
                · rw [gr1, decide_eq_true hnz] at CG
                  simp only [if_true] at CG
                  rw [← zsL_succ] at CG
                  have CG := Lib.hid CG
                  have GR := Lib.hid (gr2 hnz)
                  clear gr1 gr2
                  go_wp2_with fail
                  refine (show Calls _ _ _ _ _ from CG.out).mono ?_
                  rintro e w6 ⟨rfl, ⟨lv6, hl6⟩, hf6⟩
                  have HI6 := Lib.hid (HI5.out.move (j' := 3 * (j + 1)) hl6 hf6 GR.out (by have := HI5.out.done; omega) (by omega))
                  have c0 := HI6.out.fr.cell d0c (fun h => h)
                  clear hl6 hf6 CG
                  go_wp2_with fail
                  go_roundw
                  case rel => exact ⟨j + 1, next + 1, 0, ltn, R, lt, lv6, _, _, _, by simp, by omega, by simp, rfl, HI6.out⟩
                  case measure => simp [intOf]; omega
                · rw [gr1, decide_eq_false hnz] at CG
                  simp only [Bool.false_eq_true, if_false] at CG
                  have CG := Lib.hid CG
                  clear gr1 gr2
                  go_wp2_with fail
                  refine (show Calls _ _ _ _ _ from CG.out).mono ?_
                  rintro e w6 ⟨rfl, ⟨lv6, hl6⟩, hf6⟩
                  have HI6 := Lib.hid (HI5.out.move (j' := 3 * (j + 1)) hl6 hf6 HI5.out.ch (by have := HI5.out.done; omega) (by omega))
                  have c0 := HI6.out.fr.cell d0c (fun h => h)
                  clear hl6 hf6 CG
                  go_wp2_with fail
                  go_roundw
                  case rel => exact ⟨j + 1, next, _, ltn, R, lt, lv6, _, _, _, by simp, by omega, rfl, rfl, HI6.out⟩
                  case measure => simp [intOf]; omega
              · subst hv
                have e_k : ((k : Int) == 0) = false := by rw [beq_eq_false_iff_ne]; omega
                have CZ := Lib.hid (fun w => fsize_c k w (by omega))
                have CR := Lib.hid (lroom_c HI.out.ld HI.out.ch.live.wf (by rw [zsL_length]; have := HI.out.ch.nx; omega))
                go_wp2_with fail
                refine (CZ.out _).mono ?_
                rintro e w' ⟨rfl, rfl⟩
                go_wp2_with fail
                refine (show Calls _ _ _ _ _ from CR.out).mono ?_
                rintro e w5 ⟨rfl, hf5⟩
                have HI5 := Lib.hid (HI.out.keep hf5)
                have HW5 := Lib.hid (HF0.out.trans HI5.out.fr)
                have CAP := lappend_c HI5.out.ld HI5.out.ch.live.wf (by have := HI5.out.done; omega) (by rw [zsL_length]; have := HI5.out.ch.nx; omega) za k zc zb hmx (by omega) (HXR.out.keep HW5.out) (CTB.out w5 HW5.out)
                have happ := HI5.out.ch.app zb (by rw [hmx]; exact hle)
                have hways := appNo_ways (m := m) (next := next) hmx
                rw [HI5.out.ch.sz] at hways
                have HK := Lib.hid hmx
                clear hf5 CR hmx
                rcases hways with ⟨q1, q9⟩ | ⟨q1, q2, q9⟩ | ⟨q1, q2, q3, q9⟩ | ⟨q1, q2, q3, q9⟩
                · obtain ⟨hT, hD⟩ : appT m (zsL next) zb = (0, 0, 201) ∧ appDv m (zsL next) zb = m := by
                    rcases happ with ⟨e, g1, g2, g3⟩ | ⟨g1, _⟩ | ⟨_, _, _, g1, _⟩
                    · rw [q9] at g1
                      cases g1
                      exact ⟨g2, g3⟩
                    · rw [q9] at g1; cases g1
                    · rw [q9] at g1; cases g1
                  rw [hT, hD] at CAP
                  have CAP := Lib.hid CAP
                  have dS : decide ((S : Int) < ((sizeL k : Nat) : Int)) = true := by rw [decide_eq_true_eq]; omega
                  clear happ hT hD q9
                  generalize roomL m (zsL next) = rl at *
                  obtain ⟨sk, hsk⟩ : ∃ x, sizeL k = x := ⟨_, rfl⟩
                  rw [hsk] at dS q1 ⊢
                  clear hsk
                  go_wp2_with fail
                  refine (show Calls _ _ _ _ _ from CAP.out).mono ?_
                  rintro e w6 ⟨rfl, ⟨F6, hl6⟩, hf6⟩
                  have HI6 := Lib.hid (HI5.out.move (j' := 3 * (j + 1)) hl6 hf6 HI5.out.ch (by have := HI5.out.done; omega) (by omega))
                  have c1 := HI6.out.fr.cell d1c (fun h => h)
                  clear hl6 hf6 CAP
                  go_wp2_with fail
                  go_roundw
                  case rel => exact ⟨j + 1, _, _, _, _, lt, _, _, _, _, by simp, by omega, rfl, rfl, HI6.out⟩
                  case measure => simp [intOf]; omega
                · obtain ⟨hT, hD⟩ : appT m (zsL next) zb = (0, 0, 81) ∧ appDv m (zsL next) zb = m := by
                    rcases happ with ⟨e, g1, g2, g3⟩ | ⟨g1, _⟩ | ⟨_, _, _, g1, _⟩
                    · rw [q9] at g1
                      cases g1
                      exact ⟨g2, g3⟩
                    · rw [q9] at g1; cases g1
                    · rw [q9] at g1; cases g1
                  rw [hT, hD] at CAP
                  have CAP := Lib.hid CAP
                  have dS : decide ((S : Int) < ((sizeL k : Nat) : Int)) = false := by rw [decide_eq_false_iff_not]; omega
                  have dn : ((next : Int) == 0) = true := by rw [q2]; rfl
                  clear happ hT hD q9
                  subst q2
                  clear dn
                  generalize roomL m (zsL 0) = rl at *
                  obtain ⟨sk, hsk⟩ : ∃ x, sizeL k = x := ⟨_, rfl⟩
                  rw [hsk] at dS q1 ⊢
                  clear hsk
                  go_wp2_with fail
                  refine (show Calls _ _ _ _ _ from CAP.out).mono ?_
                  rintro e w6 ⟨rfl, ⟨F6, hl6⟩, hf6⟩
                  have HI6 := Lib.hid (HI5.out.move (j' := 3 * (j + 1)) hl6 hf6 HI5.out.ch (by have := HI5.out.done; omega) (by omega))
                  have c1 := HI6.out.fr.cell d1c (fun h => h)
                  clear hl6 hf6 CAP
                  go_wp2_with fail
                  go_roundw
                  case rel => exact ⟨j + 1, _, _, _, _, lt, _, _, _, _, by simp, by omega, rfl, rfl, HI6.out⟩
                  case measure => simp [intOf]; omega
                · obtain ⟨hT, hD⟩ : appT m (zsL next) zb = (0, 0, 73) ∧ appDv m (zsL next) zb = m := by
                    rcases happ with ⟨e, g1, g2, g3⟩ | ⟨g1, _⟩ | ⟨_, _, _, g1, _⟩
                    · rw [q9] at g1
                      cases g1
                      exact ⟨g2, g3⟩
                    · rw [q9] at g1; cases g1
                    · rw [q9] at g1; cases g1
                  rw [hT, hD] at CAP
                  have CAP := Lib.hid CAP
                  have dS : decide ((S : Int) < ((sizeL k : Nat) : Int)) = false := by rw [decide_eq_false_iff_not]; omega
                  have dn : ((next : Int) == 0) = false := by rw [beq_eq_false_iff_ne]; omega
                  have dr : decide (roomL m (zsL next) < (sizeL k : Int)) = true := by rw [decide_eq_true_eq]; exact q3
                  clear happ hT hD q9
                  clear q3
                  generalize roomL m (zsL next) = rl at *
                  obtain ⟨sk, hsk⟩ : ∃ x, sizeL k = x := ⟨_, rfl⟩
                  rw [hsk] at dS q1 dr ⊢
                  clear hsk
                  go_wp2_with fail
                  refine (show Calls _ _ _ _ _ from CAP.out).mono ?_
                  rintro e w6 ⟨rfl, ⟨F6, hl6⟩, hf6⟩
                  have HI6 := Lib.hid (HI5.out.move (j' := 3 * (j + 1)) hl6 hf6 HI5.out.ch (by have := HI5.out.done; omega) (by omega))
                  have c1 := HI6.out.fr.cell d1c (fun h => h)
                  clear hl6 hf6 CAP
                  go_wp2_with fail
                  go_roundw
                  case rel => exact ⟨j + 1, _, _, _, _, lt, _, _, _, _, by simp, by omega, rfl, rfl, HI6.out⟩
                  case measure => simp [intOf]; omega
                · have dS : decide ((S : Int) < ((sizeL k : Nat) : Int)) = false := by rw [decide_eq_false_iff_not]; omega
                  have dn : ((next : Int) == 0) = false := by rw [beq_eq_false_iff_ne]; omega
                  have dr : decide (roomL m (zsL next) < (sizeL k : Int)) = false := by rw [decide_eq_false_iff_not]; exact q3
                  clear q3
                  rcases happ with ⟨e, g1, g2, g3⟩ | ⟨g1, hT, hD⟩ | ⟨at_, hn0, hat, g1, hT, hdn, hpt, hpl, hra, R', hch⟩
                  · rw [q9] at g1
                    cases g1
                  · rw [hT, hD] at CAP
                    have CAP := Lib.hid CAP
                    clear hT hD q9 g1
                    generalize roomL m (zsL next) = rl at *
                    obtain ⟨sk, hsk⟩ : ∃ x, sizeL k = x := ⟨_, rfl⟩
                    rw [hsk] at dS q1 dr ⊢
                    clear hsk
                    go_wp2_with fail
                    refine (show Calls _ _ _ _ _ from CAP.out).mono ?_
                    rintro e w6 ⟨rfl, ⟨F6, hl6⟩, hf6⟩
                    have HI6 := Lib.hid (HI5.out.move (j' := 3 * (j + 1)) hl6 hf6 HI5.out.ch (by have := HI5.out.done; omega) (by omega))
                    have c1 := HI6.out.fr.cell d1c (fun h => h)
                    clear hl6 hf6 CAP
                    go_wp2_with fail
                    go_roundw
                    case rel => exact ⟨j + 1, next, _, _, _, lt, _, _, _, _, by simp, by omega, rfl, rfl, HI6.out⟩
                    case measure => simp [intOf]; omega
                  · rw [hT] at CAP
                    obtain ⟨m6, hm6⟩ : ∃ x, appDv m (zsL next) zb = x := ⟨_, rfl⟩
                    rw [hm6] at CAP hdn hpt hra hch
                    have hzk : sizeL zb.length = sizeL k := by rw [HK.out]
                    rw [hzk] at hpt hpl hra
                    have CAP := Lib.hid CAP
                    have HRA := Lib.hid hra
                    have HCH := Lib.hid hch
                    have HPT := Lib.hid hpt
                    have HDN := Lib.hid hdn
                    clear hT q9 g1 hm6 hzk hdn hpt hra hch
                    generalize roomL m (zsL next) = rl at *
                    have hskl := sizeL_le (n := k) (by omega)
                    have CZZ := Lib.hid (fun w => fsize_c k w (by omega))
                    obtain ⟨sk, hsk⟩ : ∃ x, sizeL k = x := ⟨_, rfl⟩
                    rw [hsk] at dS q1 dr HPT HRA hpl hskl CZZ ⊢
                    clear hsk
                    obtain ⟨nx, hnx⟩ : ∃ y, next = y + 1 := ⟨next - 1, by omega⟩
                    rw [show next - 1 = nx by omega] at CAP HPT HRA
                    obtain ⟨pt, hpt0⟩ : ∃ y : Int, ((at_ + sk : Nat) : Int) = y := ⟨_, rfl⟩
                    rw [hpt0] at HPT
                    have e_p : ((nx : Int) != (next : Int) - 1) = false := by rw [bne_eq_false_iff_eq]; omega
                    have e_q : ((at_ : Int) != pt - (sk : Int)) = false := by rw [bne_eq_false_iff_eq]; omega
                    have hptb : 0 ≤ pt := by omega
                    have hptc : pt ≤ 65536 := by omega
                    have hnb : next ≤ 64 := by
                      have := HI5.out.ch.nx
                      omega
                    have HNX := Lib.hid hnx
                    clear hnx hpt0
                    go_wp2_with fail
                    refine (show Calls _ _ _ _ _ from CAP.out).mono ?_
                    rintro e w6 ⟨rfl, ⟨F6, hl6⟩, hf6⟩
                    have HW6 : Hid (Fr No W0 w6) := Lib.hid (HI5.out.fr.then_ hf6 fun k hk e => by
                      have := HI5.out.LB k e
                      omega)
                    have HL6 := Lib.hid hl6
                    have HROW6 := Lib.hid (HI5.out.row.keep hf6 (fun k hk => HI5.out.vL k hk))
                    have hv6 : ∀ q, (Value.slice va ltn vc).ownBlock = some q → ¬ Gr L w5 w6 q := fun q hq hg => hg.elim (HI5.out.vL q hq) fun hg => by
                      have := (HI5.out.row.1.lt q hq).2
                      omega
                    have HV6 := Lib.hid hv6
                    have HLB6 : Hid (∀ k, Gr L w5 w6 k → W0.heap.size ≤ k) := Lib.hid fun k hk => hk.elim (HI5.out.LB k) fun hk => Nat.le_trans HI5.out.fr.size hk.1
                    have c1 := HW6.out.cell d1c (fun h => h)
                    have CP6 := Lib.hid (pointer_c hl6.dz HCH.out.live.wf (nx : Int))
                    rw [HPT.out] at CP6
                    have CR6 := Lib.hid (lroom_c hl6 HCH.out.live.wf (by rw [zsL_length]; have := HCH.out.nx; omega))
                    have hrl : roomL m6 (zsL next) = roomM m6 (nx : Int) := by rw [HNX.out]; unfold roomL; rw [if_neg (fun h => by have := zsL_nil.1 h; omega), zsL_last]
                    rw [hrl] at CR6
                    have CD6 := Lib.hid (fun w (f : Fr No w6 w) => room_c (hl6.dz.keep f (fun _ _ h => h)) HCH.out.live.wf (nx : Int))
                    have CRA := Lib.hid (fun w (f : Fr No w6 w) => lreadat_c (hl6.keep f (fun _ _ h => h)) HCH.out.live.wf (CTB.out w ((HF0.out.trans HW6.out).trans f)) (nx : Int) (at_ : Int) (k : Int) (sk : Int) (wf_small (by omega) (by omega)) (wf_small (by omega) (by omega)) CZZ.out)
                    rw [HRA.out] at CRA
                    clear hl6 hf6 hv6 hrl CAP
                    generalize roomM m6 (nx : Int) = rm at *
                    go_wp2_with fail
                    refine (show Calls _ _ _ _ _ from CP6.out).mono ?_
                    rintro e w' ⟨rfl, rfl⟩
                    go_wp2_with fail
                    refine (show Calls _ _ _ _ _ from CR6.out).mono ?_
                    rintro e w7 ⟨rfl, hf7⟩
                    have CD7 := Lib.hid (CD6.out w7 hf7)
                    have HF7 := Lib.hid hf7
                    clear hf7 CR6 CD6 CP6
                    go_wp2_with fail
                    refine (show Calls _ _ _ _ _ from CD7.out).mono ?_
                    rintro e w8 ⟨rfl, hf8⟩
                    have CR8 := Lib.hid (CRA.out w8 (HF7.out.trans hf8))
                    have HF8 := Lib.hid (HF7.out.trans hf8)
                    clear hf8 CD7 CRA
                    go_wp2_with fail
                    refine (show Calls _ _ _ _ _ from CR8.out).mono ?_
                    rintro e w9 ⟨ra, rc, rfl, rin, rf⟩
                    simp only
                    rw [HK.out]
                    have HF9 := Lib.hid (HF8.out.trans rf)
                    have CSA := Lib.hid (same_yes (cap := rc) (cap' := zc) HK.out HK.out rin.rd (HXR.out.keep ((HF0.out.trans HW6.out).trans (HF8.out.trans rf))) rfl)
                    clear rin rf CR8
                    have hcnt := HI5.out.cnt
                    obtain ⟨v10, W10, hrun, hrow10, hf10⟩ := RowG.push rowTx (HROW6.out.keep HF9.out (fun _ _ h => h)) (fun q hq => ((HROW6.out.keep HF9.out (fun _ _ h => h)).1.lt q hq).2) [txV ⟨za, zc, zb⟩] rfl (by intro u hu; rw [List.mem_singleton.1 hu]; rfl) (by omega) (by omega)
                    rw [show [txV ⟨za, zc, zb⟩].toArray = #[Value.slice za k zc] by rw [← HK.out]; rfl] at hrun
                    obtain ⟨ya, yc, rfl, _⟩ := hrow10.form
                    have hnew : ∀ q, (Value.slice ya (lt.length + 1) yc).ownBlock = some q → (Value.slice va ltn vc).ownBlock = some q ∨ w9.heap.size ≤ q := fun q hq => (hrow10.2 q hq).elim .inl fun h => .inr h.1
                    have HI10 : Hid (ChW W W0 g d Z S (3 * (j + 1)) next p safe R' (lt ++ [⟨za, zc, zb⟩]) (.slice ya (lt.length + 1) yc) lv' m6 (Gr L w5 w6) F6 W10) := Lib.hid
                      ⟨(HL6.out.keep HF9.out (fun _ _ h => h)).keep hf10 (fun q hq h => HV6.out q h hq), by rw [List.map_append]; exact HCH.out,
                        by rw [List.length_append]; unfold txC; rw [List.map_append]; exact ⟨hrow10.1, fun q hq => hq⟩,
                        fun q hq hg => (hnew q hq).elim (fun h => HV6.out q h hg) fun h => by
                          have := HL6.out.low q hg
                          have := HF9.out.size
                          omega, HLB6.out, fun q hq => (hnew q hq).elim (HI5.out.vB q) fun h => by
                          have := HW6.out.size
                          have := HF9.out.size
                          omega, (HW6.out.trans HF9.out).then_ hf10 fun q hq h => by
                          have := HI5.out.vB q h
                          omega, fun x hx => (List.mem_append.1 hx).elim (HI5.out.rd x) fun hx => by rw [List.mem_singleton.1 hx]; exact HXR.out, by rw [HDN.out]; have := HI5.out.done; omega, by rw [List.length_append, List.length_singleton]; omega⟩
                    have HLN : Hid (lt.length = ltn) := HLT
                    rw [HLN.out] at hrun HI10
                    have HRUN := Lib.hid hrun
                    clear hrun hrow10 hf10 hnew HL6 HROW6 HLB6 HV6
                    go_wp2_with fail
                    refine (show Calls _ _ _ _ _ from CSA.out).mono ?_
                    rintro e w10 ⟨rfl, rfl⟩
                    go_wp2_with (at_builtin; refine wpList_append_run rfl _ _ 25 rfl rfl rfl HRUN.out ?_)
                    go_roundw
                    case rel => exact ⟨j + 1, next, p, safe, R', lt ++ [⟨za, zc, zb⟩], _, m6, _, F6, by simp, by omega, rfl, rfl, HI10.out⟩
                    case measure => simp [intOf]; omega
          · obtain rfl : j = nl := by omega
            have d1 : decide ((j : Int) < (j : Int)) = false := by simp
            have hnx := hI.ch.nx
            have hFR := HF0.out.trans hI.fr
            have CRP := lreplay_c hI.ld hI.ch.live.wf (CTB.out wr hFR) (by rw [zsL_length]; omega) (fun z hz => by
              obtain ⟨q, hq, rfl⟩ := zsL_mem.1 hz
              exact ⟨hI.ch.live.dn, hI.ch.has (by omega)⟩)
            rw [hI.ch.rep] at CRP
            have CRP := Lib.hid CRP
            have CZO := Lib.hid (fun w (f : Fr No wr w) => lzones_c (hI.ld.keep f (fun _ _ h => h)) (by rw [zsL_length]; omega))
            have HROW := Lib.hid hI.row
            have HRD := Lib.hid hI.rd
            obtain ⟨cr1, cr2, q, wb, cr3, cr4, cr5⟩ := hI.ch.crash ks
            have hkb : 0 < ks.length → ∀ b o, ka = some ⟨b, o, none⟩ → ¬ F' b := fun h0 b o e hF => by
              obtain ⟨b2, o2, e2, hc2⟩ := HKS.out h0
              rw [e2] at e
              cases e
              obtain ⟨y, hy⟩ : ∃ y, ks[0]? = some y := ⟨_, List.getElem?_eq_getElem h0⟩
              have h3 := cell_block (hc2 0 y hy).1
              have h4 := HI.out.LB _ (HI.out.ld.FL _ hF)
              have h5 := HF0.out.size
              simp only at h3
              omega
            have CCR := Lib.hid (fun w (f : Fr No wr w) => (crash_c ((hI.ld.keep f (fun _ _ h => h)).dz) hI.ch.live.wf ka kc ks HKC.out.1 HKC.out.2 (HKS.out.keep (hFR.trans f)) hkb).mono fun e w' hm => (hI.ld.keep f (fun _ _ h => h)).move hm)
            have CR2 := Lib.hid (fun w L2 F2 (h : Ld L2 w g d F2 (crashM m ks) lv' (zsL next)) (t : Tab w) => lreplay_c h cr1.wf t (by rw [zsL_length]; omega) (fun z hz => by
              obtain ⟨y, hy, rfl⟩ := zsL_mem.1 hz
              refine ⟨cr1.dn, ?_⟩
              unfold hasZ
              rw [cr2]
              simp
              omega))
            rw [cr3] at CR2
            rw [List.length_map, hltn] at cr4
            have HTB := Lib.hid (CTB.out wr hFR)
            have HFR := Lib.hid hFR
            have HFX := Lib.hid hI.fr
            have hvB := Lib.hid hI.vB
            have hvL := Lib.hid hI.vL
            have HLB := Lib.hid hI.LB
            have HLOW := Lib.hid hI.ld.low
            have HZN := Lib.hid (zsL_length next)
            rw [hltn] at hvB hvL HROW
            clear hI HI hltn hFR cr1 cr2 cr3 hkb HKS HKC CTB H300 HREC
            go_wp2_with fail
            refine (show Calls _ _ _ _ _ from CRP.out).mono ?_
            rintro e w5 ⟨v5, xs, rfl, htx, hxs, hf5⟩
            simp only at hxs ⊢
            obtain ⟨xa, xc, rfl, x1, x2, xrec⟩ := htx.texts
            have hxl : xs.length = ltn := by
              have z := congrArg List.length hxs
              rw [List.length_map, List.length_map, HLT.out] at z
              exact z
            rw [hxl] at x1 ⊢
            have HRL := Lib.hid (fun w (f : Fr No W w) (r : RowG w (Own1 (.slice va ltn vc)) 22 1 (.slice va ltn vc) ltn (txC lt)) => show Recs w va lt from by
              have r2 : RowG w (Own1 (.slice va ltn vc)) 22 1 (.slice va ltn vc) lt.length (txC lt) := by rw [HLT.out]; exact r
              obtain ⟨a', c', e', _, _, h'⟩ := r2.recs (fun x hx => (HRD.out x hx).keep f)
              obtain ⟨rfl, _, rfl⟩ := Value.slice.inj e'
              exact h')
            have HS := sameT_c xa va ltn xc ltn vc xs lt w5 hxl HLT.out (by omega) (by omega) xrec (HRL.out w5 (HFR.out.trans hf5) (HROW.out.keep hf5 (fun _ _ h => h)))
            rw [hxs, beq_self_eq_true] at HS
            have HS := Lib.hid HS
            have HF5 := Lib.hid hf5
            clear htx hxs hf5 xrec hxl CRP
            go_wp2_with fail
            refine (show Calls _ _ _ _ _ from HS.out).mono ?_
            rintro e w6 ⟨rfl, hf6⟩
            have HF6 := Lib.hid (HF5.out.trans hf6)
            have CZ6 := Lib.hid (CZO.out w6 (HF5.out.trans hf6))
            clear hf6 HS CZO
            go_wp2_with fail
            refine (show Calls _ _ _ _ _ from CZ6.out).mono ?_
            rintro e w7 ⟨u7, rfl, hu7, hf7⟩
            obtain ⟨ua, uc, rfl, u1, u2, _⟩ := hu7.form
            rw [HZN.out] at u1 ⊢
            have HF7 := Lib.hid (HF6.out.trans hf7)
            have c5 := (HFX.out.trans (HF6.out.trans hf7)).cell d5c (fun h => h)
            have CC7 := Lib.hid (CCR.out w7 (HF6.out.trans hf7))
            clear hf7 hu7 CZ6 CCR
            have e_z : ((next : Int) != (next : Int)) = false := by simp
            go_wp2_with fail
            refine (show Calls _ _ _ _ _ from CC7.out).mono ?_
            rintro e w8 ⟨rfl, ⟨F8, hl8⟩, hf8⟩
            have HROW8 := Lib.hid ((HROW.out.keep HF7.out (fun _ _ h => h)).keep hf8 (fun k hk h => hvL.out k hk h))
            have HF8 : Hid (Fr No W w8) := Lib.hid ((HFR.out.trans HF7.out).then_ hf8 fun k hk h => by
              have h3 := HLB.out k h
              have h4 := HF0.out.size
              omega)
            have CR8 := Lib.hid (CR2.out w8 _ F8 hl8 (by
              have t7 := HTB.out.keep HF7.out (fun h => h)
              refine t7.keep hf8 fun h => ?_
              have h3 := HLB.out _ h
              have h4 := cell_block (HT0.out 0 (by omega))
              have h5 := HF0.out.size
              simp only at h4
              omega))
            clear hl8 hf8 CC7 CR2
            go_wp2_with fail
            refine (show Calls _ _ _ _ _ from CR8.out).mono ?_
            rintro e w9 ⟨v9, ys, rfl, hty, hys, hf9⟩
            simp only at hys ⊢
            obtain ⟨ya, yc, rfl, y1, y2, yrec⟩ := hty.texts
            have hyl : ys.length = q := by
              have z := congrArg List.length hys
              rw [List.length_map, List.length_take, List.length_map, HLT.out] at z
              omega
            rw [hyl] at y1 ⊢
            have HF9 := Lib.hid (HF8.out.trans hf9)
            have htl : (lt.take q).length = q := by rw [List.length_take, HLT.out]; omega
            have HTR : Recs w9 va (lt.take q) := fun h0 => by
              obtain ⟨b, o, hb, hx⟩ := HRL.out w9 HF9.out (HROW8.out.keep hf9 (fun _ _ h => h)) (by rw [HLT.out]; rw [htl] at h0; omega)
              exact ⟨b, o, hb, fun i x hi => hx i x (by rw [List.getElem?_take] at hi; split at hi; exact hi; cases hi)⟩
            have HS := sameT_c ya va q yc q vc ys (lt.take q) w9 hyl htl (by omega) (by omega) yrec HTR
            rw [hys, List.map_take, beq_self_eq_true] at HS
            have HS := Lib.hid HS
            have KL : ∀ w, (Instr.slice 25 (.slice va ltn vc) none (some (.int .i64 (q : Int))) none).run Tryd.prog w = .ok (.slice va q vc) w := fun w => cut_hi (P := Tryd.prog) (t := 25) (e := 22) Tryd.underlying25 sizeSl va ltn vc q (by omega) w
            have e_m : min (q : Int) (ltn : Int) = (q : Int) := by omega
            clear hty hys hf9 yrec hyl htl HTR CR8 HROW8 HRL HRD
            go_wp2_with fail
            refine (show Calls _ _ _ _ _ from HS.out).mono ?_
            rintro e w10 ⟨rfl, hf10⟩
            have CA10 := Lib.hid (CA.out w10 (HF9.out.trans hf10))
            have HF10 := Lib.hid (HF9.out.trans hf10)
            clear hf10 HS
            go_wp2_with fail
            refine (show Calls _ _ _ _ _ from CA10.out).mono ?_
            rintro e w11 ⟨rfl, hf11⟩
            go_wp2_with fail
            go_ret
            exact ⟨rfl, HF10.out.trans hf11⟩
end Go.Proofs.YtcekgalppbfnhaaDoor
