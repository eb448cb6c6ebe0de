/-
  The walk of WireCut.
-/
import Derived.Test.YtpjfdhgkclnagaaWireL
namespace Go.Proofs.Ytpjfdhgkclnagaa
set_option linter.unusedVariables false
open Go.RowKit

theorem cut_hm {t e : TypeId} (ht : Try.prog.underlying t = some (.slice e)) (hz : ∀ w, (sizeOf e).run Try.prog w = .ok 1 w) (a : Option Addr) (len cap hi : Nat) (h2 : hi ≤ cap) (w : World) :
    (Instr.slice t (.slice a len cap) none (some (.int .i64 (hi : Int))) (some (.int .i64 (hi : Int)))).run Try.prog w = .ok (.slice a hi hi) w := by
  have he : Try.prog.elem t = e := by simp [Program.elem, ht]
  have ht' : Try.prog.underlying t = some (.slice (Try.prog.elem t)) := by rw [he]; exact ht
  rw [run_slice_hm w t a len cap ht' .i64 .i64 hi hi (by omega) (by omega) (by omega), he, hz]
  have := cutAt_zero a hi
  simp [Result.andThen, sliced]
  simpa [cutAt] using this

set_option maxRecDepth 40000 in
set_option maxHeartbeats 8000000 in
theorem wireCut_go (w : World) (a : Option Addr) (cap : Nat) (l : List Tx) (h0 : 0 < l.length) (h30 : l.length ≤ 30) (hi : Texts w a l) (cut : Int) (wc : (Lit.int .i64 cut).wf = true) :
    Calls Try.prog 6 #[.slice a l.length cap, .int .i64 cut] w fun e w' => e = .returned (.bool true) ∧ Fr No w w' := by
  obtain ⟨len, hlen⟩ : ∃ len, l.length = len := ⟨_, rfl⟩
  rw [hlen] at h30 h0 ⊢
  have hcut := wf_i64 wc
  have HL := Lib.hid hlen
  have HI := Lib.hid hi
  have HW0 := Lib.hid (WInv.new w w (Fr.refl _ _))
  have hne : ((len : Int) == 0) = false := by rw [beq_eq_false_iff_ne]; omega
  clear hi hlen wc
  go_enter Try.func6, Try.ntmps6
  go_wp2_with fail
  go_loopw [23] (fun i wr => ∃ (k : Nat) (S : Nat → Prop), i = .int .i64 k ∧ k ≤ len ∧ WInv w wr w.heap.size S (encT (l.take k)) false ∧ ∀ (j : Nat) (y : Tx), j < k → l[j]? = some y → y.b.length ≤ 300) (fun i _ => len - (intOf i).toNat)
  case atStart => exact ⟨0, No, rfl, Nat.zero_le _, HW0.out, fun j y h => absurd h (by omega)⟩
  case round =>
    obtain ⟨k, S, rfl, hk, hw, hpos⟩ := hrel
    clear HW0
    have HW := Lib.hid hw
    have HP := Lib.hid hpos
    clear hw hpos
    by_cases hlt : k < len
    · have hkl : k < l.length := by rw [HL.out]; exact hlt
      obtain ⟨b, o, rfl, hx⟩ := HI.out (by omega)
      have hx := hx k l[k] (List.getElem?_eq_getElem hkl)
      have c0 := HW.out.fr.cell hx.c0 (fun h => h)
      have HX : Hid (l[k]? = some l[k]) := Lib.hid (List.getElem?_eq_getElem hkl)
      generalize l[k] = x at c0 hx HX
      have g1 := hx.le
      have g2 := hx.cm
      have HRd := Lib.hid hx.rd
      clear hx
      unfold maxLen at g2
      by_cases hbig : 300 < x.b.length
      · generalize x.b.length = q at *
        go_wp2_with fail
        refine (awake_c wr).mono ?_
        rintro e w6 ⟨rfl, f⟩
        have F := Lib.hid (HW.out.fr.then_ f fun _ _ h => h)
        clear f
        go_wp2_with fail
        go_ret
        exact ⟨rfl, F.out⟩
      · have hle : (encT (l.take k)).length ≤ 309 * 30 := Nat.le_trans (encT_le _ fun t ht => by
            obtain ⟨j, hj, rfl⟩ := List.mem_iff_getElem.1 ht
            rw [List.length_take] at hj
            have hjk : j < k := by omega
            have e : (l.take k)[j] = l[j]'(by omega) := by simp
            rw [e]
            exact HP.out j _ hjk (List.getElem?_eq_getElem (by omega))) (by rw [List.length_take]; omega)
        have C := Lib.hid (wtext_c x.a x.b.length x.c x.b wr w.heap.size S _ false HW.out.wr rfl (by omega) (HW.out.apart HRd.out))
        have HE : Hid (encT (l.take (k + 1)) = encT (l.take k) ++ (enc x.b.length ++ x.b)) := Lib.hid (by rw [take_more l k _ HX.out, encT_snoc])
        have HP2 : Hid (∀ (j : Nat) (y : Tx), j < k + 1 → l[j]? = some y → y.b.length ≤ 300) := Lib.hid (fun j z hj hz => by
          rcases Nat.lt_or_ge j k with h | h
          · exact HP.out j z h hz
          · have : j = k := by omega
            subst this
            rw [HX.out] at hz
            cases hz
            omega)
        clear hle
        generalize x.b.length = q at *
        go_wp2_with fail
        refine (show Calls _ _ _ _ _ from C.out).mono ?_
        intro e w2 hret
        have hw2 := HW.out.of_ret hret
        obtain ⟨rfl, _, _⟩ := hret
        have HW2 := Lib.hid hw2
        clear hw2 C
        go_wp2_with fail
        go_roundw
        case rel => exact ⟨k + 1, _, by go_num, by omega, by rw [HE.out]; exact HW2.out, HP2.out⟩
        case measure => simp [intOf]; omega
    · have hk' : k = len := by omega
      have hall : l.take k = l := List.take_of_length_le (by rw [HL.out]; omega)
      rw [hall] at HW
      have H300 : Hid (∀ t ∈ l, t.b.length ≤ 300) := Lib.hid (fun t ht => by
        obtain ⟨j, hj, rfl⟩ := List.mem_iff_getElem.1 ht
        exact HP.out j _ (by rw [hk', ← HL.out]; exact hj) (List.getElem?_eq_getElem hj))
      have hle := encT_le l H300.out
      obtain ⟨p, hp⟩ : ∃ p, p = encT l := ⟨_, rfl⟩
      rw [← hp] at HW hle
      obtain ⟨n, hn⟩ : ∃ n, p.length = n := ⟨_, rfl⟩
      rw [hn] at hle
      have hn9 : n ≤ 9270 := by have := HL.out; omega
      have C1 := wbytes_c wr w.heap.size S p HW.out.wr (by omega)
      have Hn := Lib.hid hn
      have HPe := Lib.hid hp
      clear hk' hall hp HP hn hle
      go_wp2_with fail
      refine C1.mono ?_
      rintro e w2 ⟨a1, c1, rfl, hc1, hc2, hrow1, f2⟩
      have F2 := Lib.hid (HW.out.fr.then_ f2 fun _ _ h => h)
      have HR2 := Lib.hid hrow1
      rw [Hn.out] at hc1 HR2 ⊢
      unfold maxLen at hc2
      have HWs := HW.out.fr.size
      clear C1 f2 hrow1 HW
      by_cases hneg : cut < 0
      · go_wp2_with fail
        refine (awake_c w2).mono ?_
        rintro e w6 ⟨rfl, f⟩
        have F := Lib.hid (F2.out.then_ f fun _ _ h => h)
        clear f
        go_wp2_with fail
        go_ret
        exact ⟨rfl, F.out⟩
      · by_cases hlong : (n : Int) < cut
        · go_wp2_with fail
          refine (awake_c w2).mono ?_
          rintro e w6 ⟨rfl, f⟩
          have F := Lib.hid (F2.out.then_ f fun _ _ h => h)
          clear f
          go_wp2_with fail
          go_ret
          exact ⟨rfl, F.out⟩
        · obtain ⟨c, rfl⟩ := Int.eq_ofNat_of_zero_le (show 0 ≤ cut by omega)
          have hcn : c ≤ n := by omega
          have S1 := cut_hm Try.underlying25 sizeU8 a1 n c1 c (by omega)
          have hlc : (p.take c).length = c := by rw [List.length_take, Hn.out]; omega
          have C2 := Lib.hid (newr_c a1 c c (p.take c) w2 hlc (by omega) (HR2.out.rd.take c))
          clear hlc
          go_wp2_with fail
          refine (show Calls _ _ _ _ _ from C2.out).mono ?_
          rintro e w3 ⟨R, T, rfl, hrr, f3, hR, hT⟩
          have F3 := Lib.hid (F2.out.then_ f3 fun _ _ h => h)
          have HRR : Hid (w.heap.size ≤ R) := Lib.hid (Nat.le_trans F2.out.size hR)
          have HQ : Hid (Rr w3 R T (readT 0 (p.take c, false))) := Lib.hid hrr
          have HR3 := Lib.hid (HR2.out.keep f3 fun _ _ h => h)
          have HTS : Hid (∀ k, Gr No wr w2 k → k ≠ R ∧ wr.heap.size ≤ k ∧ k < w2.heap.size) := Lib.hid (fun k hk => by
            simp [Gr, No] at hk
            omega)
          have Hs23 := Lib.hid f3.size
          have HT := Lib.hid hT
          clear f3 hR hrr hT C2 F2 S1 HR2
          go_wp2_with fail
          go_loopw [62] (fun i wr' => ∃ (j : Nat), i = .int .i64 j ∧ j ≤ len ∧ Fr No w wr' ∧ Rr wr' R T (readT j (p.take c, false)) ∧ Row wr' (Gr No wr w2) (.slice a1 n c1) p ∧ w2.heap.size ≤ wr'.heap.size) (fun i _ => len - (intOf i).toNat)
          case atStart => exact ⟨0, rfl, Nat.zero_le _, F3.out, HQ.out, HR3.out, Hs23.out⟩
          case round =>
            obtain ⟨j, rfl, hj, hfr, hq, hrow, hsz⟩ := hrel
            clear F3 HQ HR3
            have HF := Lib.hid hfr
            have HQ := Lib.hid hq
            have HRw := Lib.hid hrow
            have HS := Lib.hid hsz
            clear hfr hq hrow hsz
            by_cases hjl : j < len
            · have C := Lib.hid (rtext_c _ R T _ HQ.out)
              go_wp2_with fail
              refine (show Calls _ _ _ _ _ from C.out).mono ?_
              rintro e w4 ⟨a4, c4, rfl, _, hr4, f4⟩
              rw [← readT_last] at hr4
              have F4 := Lib.hid (HF.out.new1 f4 HRR.out)
              have HR4 := Lib.hid hr4
              have HRw4 := Lib.hid (HRw.out.keep f4 fun k hk h => (HTS.out k hk).1 h)
              have HS4 := Lib.hid (Nat.le_trans HS.out f4.size)
              clear C hr4 f4
              go_wp2_with fail
              go_roundw
              case rel => exact ⟨j + 1, by go_num, by omega, F4.out, HR4.out, HRw4.out, HS4.out⟩
              case measure => simp [intOf]; omega
            · have hj' : j = len := by omega
              rw [hj'] at HQ
              have HQD : Hid (∃ st : St, readT len (p.take c, false) = st ∧ ((c = n ∧ doneI st = 0) ∨ (c ≠ n ∧ doneI st = 20))) := by
                refine Lib.hid ⟨_, rfl, ?_⟩
                by_cases hc : c = n
                · left
                  refine ⟨hc, ?_⟩
                  have h := readT_all l [] H300.out
                  rw [List.append_nil, ← HPe.out, HL.out] at h
                  rw [List.take_of_length_le (by rw [Hn.out]; omega), h]
                  exact done0
                · right
                  refine ⟨hc, ?_⟩
                  have h := readT_cut l c H300.out (by rw [← HPe.out, Hn.out]; omega)
                  rw [← HPe.out, HL.out] at h
                  unfold doneI
                  rw [if_pos (.inl h)]
              obtain ⟨st, hst, hd⟩ := HQD.out
              rw [hst] at HQ
              have HD := Lib.hid hd
              obtain ⟨v5, w5, hrun, hrow5, f5⟩ := HRw.out.push (fun k hk => by
                have := (HTS.out k hk).2.2
                have := HS.out
                omega) 7 (by rw [Hn.out]; omega)
              rw [show (((7 : UInt8).toNat : Nat) : Int) = 7 from rfl] at hrun
              obtain ⟨a5, c5, rfl, e1, e2, hin5⟩ := hrow5.form
              have hl5 : (p ++ [7]).length = n + 1 := by rw [List.length_append, Hn.out]; rfl
              rw [hl5] at hrun e1
              have C5 := Lib.hid (newr_c a5 (n + 1) c5 (p ++ [7]) w5 hl5 (by omega) hin5.rd)
              have HRUN := Lib.hid hrun
              have F5 := Lib.hid (HF.out.then_ f5 fun k hk h => by
                have := (HTS.out k h).2.1
                omega)
              have HQ5 := Lib.hid (HQ.out.keep f5 (fun h => (HTS.out R h).1 rfl) fun k hk h => by
                have := (HTS.out k h).2.2
                have := HT.out k hk
                omega)
              have Hj := Lib.hid hj'
              clear hst hd HQD hrun hrow5 f5 hin5 hl5 e1 e2 hj' HRw HF HQ
              go_wp2_with (at_builtin; refine wpList_append_run rfl _ _ 25 rfl rfl rfl HRUN.out ?_)
              refine (show Calls _ _ _ _ _ from C5.out).mono ?_
              rintro e w6 ⟨R2, T2, rfl, hrr, f6, hR2, hT2⟩
              have F6 := Lib.hid (F5.out.then_ f6 fun _ _ h => h)
              have HQ6 := Lib.hid (HQ5.out.keep f6 (fun h => h) fun _ _ h => h)
              have HRn : Hid (w.heap.size ≤ R2 ∧ R < R2) := Lib.hid ⟨Nat.le_trans F5.out.size hR2, Nat.lt_of_lt_of_le HQ5.out.lt hR2⟩
              have HL6 : Hid (Rr w6 R2 T2 (readT 0 (p ++ [7], false))) := Lib.hid hrr
              clear f6 hR2 hT2 hrr C5 F5 HQ5 HRUN
              go_wp2_with fail
              go_loopw [73] (fun i wr' => ∃ (j : Nat), i = .int .i64 j ∧ j ≤ len ∧ Fr No w wr' ∧ Rr wr' R T st ∧ Rr wr' R2 T2 (readT j (p ++ [7], false))) (fun i _ => len - (intOf i).toNat)
              case atStart => exact ⟨0, rfl, Nat.zero_le _, F6.out, HQ6.out, HL6.out⟩
              case round =>
                obtain ⟨i, rfl, hi, hfr, hq, hl⟩ := hrel
                clear F6 HQ6 HL6
                have HF := Lib.hid hfr
                have HQ := Lib.hid hq
                have HLn := Lib.hid hl
                clear hfr hq hl
                by_cases hil : i < len
                · have C := Lib.hid (rtext_c _ R2 T2 _ HLn.out)
                  go_wp2_with fail
                  refine (show Calls _ _ _ _ _ from C.out).mono ?_
                  rintro e w7 ⟨a7, c7, rfl, _, hr7, f7⟩
                  rw [← readT_last] at hr7
                  have F7 := Lib.hid (HF.out.new1 f7 HRn.out.1)
                  have HR7 := Lib.hid hr7
                  have HQ7 := Lib.hid (HQ.out.keep f7 (fun h => by have : R = R2 := h; have := HRn.out.2; omega) fun k hk h => by
                    have h1 := HT.out k hk
                    have h2 := HRn.out.2
                    have : k = R2 := h
                    omega)
                  clear C hr7 f7
                  go_wp2_with fail
                  go_roundw
                  case rel => exact ⟨i + 1, by go_num, by omega, F7.out, HQ7.out, HR7.out⟩
                  case measure => simp [intOf]; omega
                · have hi' : i = len := by omega
                  have e7 : readT i (p ++ [7], false) = ([7], false) := by
                    have h := readT_all l [7] H300.out
                    rw [← HPe.out, HL.out] at h
                    rw [hi', h]
                  rw [e7] at HLn
                  have C1 := rdone_c _ R T _ HQ.out
                  have C2 := Lib.hid (rbad_c _ R2 T2 _ HLn.out)
                  have C3 : Hid (Calls Try.prog 26 #[.pointer (some ⟨R2, 0, none⟩)] _ _) := Lib.hid (rleft_c _ R2 T2 _ HLn.out)
                  have C4 := rdone_c _ R2 T2 _ HLn.out
                  rw [show doneI ([7], false) = 20 by decide] at C4
                  have C4 := Lib.hid C4
                  have Hi := Lib.hid hi'
                  clear hi' e7
                  rcases HD.out with ⟨hc, hd⟩ | ⟨hc, hd⟩
                  · rw [hd] at C1
                    have C1 := Lib.hid C1
                    have hb : ((c : Int) == (n : Int)) = true := by rw [hc]; exact beq_self_eq_true _
                    clear hd
                    subst hc
                    go_wp2_with fail
                    refine (show Calls _ _ _ _ _ from C1.out).mono ?_
                    rintro e w7 ⟨rfl, rfl⟩
                    go_wp2_with fail
                    refine (show Calls _ _ _ _ _ from C2.out).mono ?_
                    rintro e w7 ⟨rfl, rfl⟩
                    go_wp2_with fail
                    refine (show Calls _ _ _ _ _ from C3.out).mono ?_
                    rintro e w7 ⟨rfl, rfl⟩
                    go_wp2_with fail
                    refine (show Calls _ _ _ _ _ from C4.out).mono ?_
                    rintro e w7 ⟨rfl, rfl⟩
                    go_wp2_with fail
                    refine (awake_c _).mono ?_
                    rintro e w8 ⟨rfl, f⟩
                    have F := Lib.hid (HF.out.then_ f fun _ _ h => h)
                    clear f
                    go_wp2_with fail
                    go_ret
                    exact ⟨rfl, F.out⟩
                  · rw [hd] at C1
                    have C1 := Lib.hid C1
                    have hb : ((c : Int) == (n : Int)) = false := by rw [beq_eq_false_iff_ne]; omega
                    clear hd
                    go_wp2_with fail
                    refine (show Calls _ _ _ _ _ from C1.out).mono ?_
                    rintro e w7 ⟨rfl, rfl⟩
                    go_wp2_with fail
                    refine (show Calls _ _ _ _ _ from C2.out).mono ?_
                    rintro e w7 ⟨rfl, rfl⟩
                    go_wp2_with fail
                    refine (show Calls _ _ _ _ _ from C3.out).mono ?_
                    rintro e w7 ⟨rfl, rfl⟩
                    go_wp2_with fail
                    refine (show Calls _ _ _ _ _ from C4.out).mono ?_
                    rintro e w7 ⟨rfl, rfl⟩
                    go_wp2_with fail
                    refine (awake_c _).mono ?_
                    rintro e w8 ⟨rfl, f⟩
                    have F := Lib.hid (HF.out.then_ f fun _ _ h => h)
                    clear f
                    go_wp2_with fail
                    go_ret
                    exact ⟨rfl, F.out⟩

set_option maxRecDepth 40000 in
set_option maxHeartbeats 800000 in
theorem wireCut_out (w : World) (a : Option Addr) (cap n : Nat) (x : Int) (hn : n ≤ maxLen) (h : 30 < n ∨ n = 0) :
    Calls Try.prog 6 #[.slice a n cap, .int .i64 x] w fun e w' => e = .returned (.bool true) ∧ Fr No w w' := by
  unfold maxLen at hn
  by_cases h1 : 30 < n
  · go_enter Try.func6, Try.ntmps6
    go_wp2_with fail
    refine (awake_c w).mono ?_
    rintro e w6 ⟨rfl, f⟩
    have F := Lib.hid f
    clear f
    go_wp2_with fail
    go_ret
    exact ⟨rfl, F.out⟩
  · have h2 : n = 0 := h.elim (fun h => absurd h h1) id
    clear h
    subst h2
    go_enter Try.func6, Try.ntmps6
    go_wp2_with fail
    refine (awake_c w).mono ?_
    rintro e w6 ⟨rfl, f⟩
    have F := Lib.hid f
    clear f
    go_wp2_with fail
    go_ret
    exact ⟨rfl, F.out⟩

theorem wireCut_walk (w : World) (a0 : Option Addr) (c0 : Nat) (l : List Tx) (hc0 : l.length ≤ c0) (hm0 : c0 ≤ maxLen) (rd0 : Texts w a0 l) (x : Int) (wx : (Lit.int .i64 x).wf = true) :
    Calls Try.prog 6 #[.slice a0 l.length c0, .int .i64 x] w fun e w' => e = .returned (.bool true) ∧ Below w.heap.size w w' := by
  refine Calls.mono (R := fun e w' => e = .returned (.bool true) ∧ Fr No w w') ?_ fun e w' ⟨he, hf⟩ => ⟨he, hf.below (Nat.le_refl _) fun k h => h.elim⟩
  by_cases h : 30 < l.length ∨ l.length = 0
  · exact wireCut_out w a0 c0 _ x (by omega) h
  · exact wireCut_go w a0 c0 l (by omega) (by omega) rd0 x wx
end Go.Proofs.Ytpjfdhgkclnagaa
