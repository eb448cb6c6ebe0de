/-
  Texts of layer 14 and of what it stands on, one behind the other.
-/
import Derived.Test.YtihahckjcedceaaDoorMg25

/- The contract of the document's Bytes (layer 3). -/
namespace Go.Proofs.YtihahckjcedceaaDoor
set_option linter.unusedVariables false
open Go.RowKit

theorem low_take (n i : Nat) (h : i < 6) : (six n).reverse.take (i + 1) = (six n).reverse.take i ++ [(six n).reverse.getD i 0] := by
  rw [List.take_add_one]
  congr 1
  simp [List.getD, List.getElem?_eq_getElem (show i < (six n).reverse.length from h)]
theorem low_at (n j m : Nat) (hj : j < 6) (hm : m = n / 256 ^ j) : (six n).reverse.getD j 0 = UInt8.ofNat m := by
  subst hm
  have hc : j = 0 ∨ j = 1 ∨ j = 2 ∨ j = 3 ∨ j = 4 ∨ j = 5 := by omega
  rcases hc with rfl | rfl | rfl | rfl | rfl | rfl <;> simp [six]
theorem low_high (n p j : Nat) (h : p + j = 5) : (six n).reverse.getD p 0 = (six n).getD j 0 := by
  have hc : (p = 0 ∧ j = 5) ∨ (p = 1 ∧ j = 4) ∨ (p = 2 ∧ j = 3) ∨ (p = 3 ∧ j = 2) ∨ (p = 4 ∧ j = 1) ∨ (p = 5 ∧ j = 0) := by omega
  rcases hc with ⟨rfl, rfl⟩ | ⟨rfl, rfl⟩ | ⟨rfl, rfl⟩ | ⟨rfl, rfl⟩ | ⟨rfl, rfl⟩ | ⟨rfl, rfl⟩ <;> rfl
set_option maxRecDepth 20000 in
set_option maxHeartbeats 2000000 in
theorem refBytes_c (s : ByteArray) (q k : Int) (w : World) (h : Rt s.size q k) :
    Calls Tryd.prog 46 #[.agg #[.string s, .int .i64 q, .int .i64 k]] w (NewRow (encK s.data.toList q k) w) := by
  obtain ⟨h1, h2, h3, h4, h5, h6⟩ := h
  obtain ⟨n, hn⟩ : ∃ n : Nat, 1099511627776 - q = (n : Int) := ⟨(1099511627776 - q).toNat, by omega⟩
  have hn40 : n ≤ 1099511627776 := by omega
  have hE := encK_of s.data.toList q k n hn
  generalize encK s.data.toList q k = Y at hE ⊢
  have HE := Lib.hid hE
  have hX := escs_length s.data.toList
  rw [ba_len] at hX
  clear hE h3 h4
  go_enter Tryd.func46, Tryd.ntmps46
  go_wp2_with fail
  have A1 : At _ w.heap.size _ _ := At.new w 47 #[.string s, .int .i64 q, .int .i64 k]
  have hf0 := (Fr.refl No w).alloc (.cells #[.string s, .int .i64 q, .int .i64 k] 47)
  generalize w.alloc (.cells #[.string s, .int .i64 q, .int .i64 k] 47) = W at *
  have HB := Lib.hid (show w.heap.size < W.heap.size from A1.lt)
  have HA := Lib.hid A1
  have HF0 := Lib.hid hf0
  clear A1 hf0
  go_loopw [3, 4] (fun b i wr => ∃ j : Nat, i = .int .i64 j ∧ j ≤ s.size ∧ Row wr (Gr No W wr) b (escs (s.data.toList.take j)) ∧ Fr No W wr) (fun _ i _ => s.size - (intOf i).toNat)
  case atStart => exact ⟨0, rfl, Nat.zero_le _, by simpa [escs_nil] using Row.nil _ _, Fr.refl _ _⟩
  case round =>
    obtain ⟨j, rfl, hj, hrow, hfr⟩ := hrel
    have a0 := (HA.out.keep hfr (fun h => h)).cell 0
    simp at a0
    have hlen := escs_take_len s.data.toList j (by omega)
    by_cases h1 : j < s.size
    · have et := escs_take s.data.toList j (by rw [ba_len]; exact h1)
      rw [ba_getD s j h1] at et
      obtain ⟨v1, w1, hrun, hrow1, hfr1⟩ := hrow.push gr_lt s[j] (by omega)
      have hrow1 := hrow1.join hfr.size hfr1.size
      have hfr1 := hfr.then_ hfr1 fun k hk h => Gr.old hk h
      have a1 := (HA.out.keep hfr1 (fun h => h)).cell 0
      simp at a1
      by_cases h2 : s[j] = 0
      · have h2' : s[j].toNat = 0 := by rw [h2]; rfl
        obtain ⟨v2, w2, hrun2, hrow2, hfr2⟩ := hrow1.push gr_lt 255 (by simp; omega)
        rw [esc, if_pos h2] at et
        rw [h2', show ((0 : Nat) : Int) = 0 from rfl] at hrun
        rw [show (((255 : UInt8).toNat : Nat) : Int) = 255 from rfl] at hrun2
        have HR1 := Lib.hid hrun
        have HR2 := Lib.hid hrun2
        have hrow2 := hrow2.join hfr1.size hfr2.size
        rw [h2, List.append_assoc] at hrow2
        have HW := Lib.hid (show Row w2 (Gr No W w2) v2 (escs (s.data.toList.take (j + 1))) from et ▸ hrow2)
        have HF := Lib.hid (hfr1.then_ hfr2 fun k hk h => Gr.old hk h)
        clear hrun hrun2 hrow hrow1 hrow2 hfr hfr1 hfr2 et hlen
        go_wp2_with (at_builtin; first | refine wpList_append_run rfl _ _ 51 rfl rfl rfl HR1.out ?_ | refine wpList_append_run rfl _ _ 51 rfl rfl rfl HR2.out ?_)
        go_roundw
        case rel => exact ⟨j + 1, by simp, by omega, HW.out, HF.out⟩
        case measure => simp [intOf]; omega
      · have h2' : ¬ s[j].toNat = 0 := fun e => h2 (UInt8.toNat_inj.1 e)
        rw [esc, if_neg h2] at et
        have HR1 := Lib.hid hrun
        have HW := Lib.hid (show Row w1 (Gr No W w1) v1 (escs (s.data.toList.take (j + 1))) from et ▸ hrow1)
        have HF := Lib.hid hfr1
        clear hrun hrow hrow1 hfr hfr1 et hlen
        go_wp2_with (at_builtin; refine wpList_append_run rfl _ _ 51 rfl rfl rfl HR1.out ?_)
        go_roundw
        case rel => exact ⟨j + 1, by simp, by omega, HW.out, HF.out⟩
        case measure => simp [intOf]; omega
    · have hk2 : j = s.size := by omega
      subst hk2
      obtain ⟨v2, w2, hrun, hrow2, hfr2⟩ := hrow.push2 gr_lt 0 1 (by omega)
      have hrow2 := hrow2.join hfr.size hfr2.size
      rw [List.take_of_length_le (by rw [ba_len]; omega)] at hrow2
      rw [show (((0 : UInt8).toNat : Nat) : Int) = 0 from rfl, show (((1 : UInt8).toNat : Nat) : Int) = 1 from rfl] at hrun
      have hfr2 := hfr.then_ hfr2 fun k hk h => Gr.old hk h
      have b1 := (HA.out.keep hfr2 (fun h => h)).cell 1
      simp at b1
      have HR1 := Lib.hid hrun
      have hX' : (escs s.data.toList ++ [0, 1]).length ≤ 1000 := by simp; omega
      have hE := HE.out
      generalize escs s.data.toList ++ [0, 1] = X at hrow2 hE hX'
      have HX := Lib.hid hrow2
      have HF2 := Lib.hid hfr2
      have HE' := Lib.hid hE
      clear hrun hrow hfr hlen hX hrow2 hfr2 hE HE
      go_wp2_with (at_builtin; refine wpList_append_run rfl _ _ 51 rfl rfl rfl HR1.out ?_)
      go_loopw [5, 6, 7] (fun m low i wr => ∃ (j m' : Nat), i = .int .i64 j ∧ j ≤ 6 ∧ m = .int .i64 m' ∧ m' = n / 256 ^ j ∧ m' ≤ n ∧ Row wr (Gr No w2 wr) low ((six n).reverse.take j) ∧ Fr No w2 wr) (fun _ _ i _ => 6 - (intOf i).toNat)
      case atStart => exact ⟨0, n, rfl, by omega, rfl, by simp, Nat.le_refl _, by simpa using Row.nil _ _, Fr.refl _ _⟩
      case round =>
        obtain ⟨j, m, rfl, hj, rfl, hm, hmn, hrow, hfr⟩ := hrel
        by_cases h1 : j < 6
        · obtain ⟨v3, w3, hrun, hrow3, hfr3⟩ := hrow.push gr_lt ((six n).reverse.getD j 0) (by simp [six]; omega)
          have hrow3 := hrow3.join hfr.size hfr3.size
          rw [← low_take n j h1] at hrow3
          rw [low_at n j m h1 hm, toNat_ofNat8, show ((m % 256 : Nat) : Int) = (m : Int) % 256 by omega] at hrun
          have HR3 := Lib.hid hrun
          have HW := Lib.hid hrow3
          have HF := Lib.hid (hfr.then_ hfr3 fun k hk h => Gr.old hk h)
          have HM := Lib.hid (show m / 256 = n / 256 ^ (j + 1) by rw [hm, Nat.div_div_eq_div_mul, Nat.pow_succ])
          clear hrun hrow hrow3 hfr hfr3 hm
          go_wp2_with (at_builtin; refine wpList_append_run rfl _ _ 51 rfl rfl rfl HR3.out ?_)
          go_roundw
          case rel => exact ⟨j + 1, m / 256, by simp, by omega, rfl, HM.out, by omega, HW.out, HF.out⟩
          case measure => simp [intOf]; omega
        · have hj6 : j = 6 := by omega
          subst hj6
          rw [List.take_of_length_le (by simp [six])] at hrow
          obtain ⟨la, lc, hv, hl1, hl2, hin⟩ := hrow.form
          rw [show (six n).reverse.length = 6 from rfl] at hv hl1
          subst hv
          obtain ⟨lb, lo, hS, rfl, hc⟩ := hin (by simp [six])
          have HC := Lib.hid (show ∀ i, i < 6 → wr.cell? ⟨lb, lo + i, none⟩ = some (.int .u8 (((six n).reverse.getD i 0).toNat : Int)) from hc)
          have HS := Lib.hid (show w2.heap.size ≤ lb ∧ lb < wr.heap.size from by
            rcases hS with hS | hS
            · exact hS.elim
            · exact hS)
          have HF3 := Lib.hid hfr
          unfold maxLen at hl2
          clear hrow hfr hm hmn hin hc hS h1 hj
          rename World => wz
          rw [show ((6 : Nat) : Int) = 6 from rfl]
          go_wp2_with fail
          go_loopw [3, 8] (fun out i wr => ∃ (p j : Nat), p + j = 6 ∧ i = .int .i64 ((p : Int) - 1) ∧ Row wr (Gr (Gr No W w2) wz wr) out (X ++ (six n).take j) ∧ Fr (Gr No W w2) wz wr) (fun _ i _ => (intOf i + 1).toNat)
          case atStart => exact ⟨6, 0, rfl, rfl, by simpa using (HX.out.keep HF3.out (fun _ _ h => h)).sub fun k _ h => .inl h, Fr.refl _ _⟩
          case round =>
            obtain ⟨p, j, hpj, hi, hrow, hfr⟩ := hrel
            have hgl : ∀ k, Gr (Gr No W w2) wz wr k → k < wr.heap.size := fun k hk => by
              rcases hk with hk | hk
              · have := gr_lt k hk
                have h1 := HF3.out.size
                have h2 := hfr.size
                omega
              · exact hk.2
            have hall : Fr No W wr := (HF2.out.trans HF3.out).then_ hfr (fun x hx h => by
              rcases h with h | h
              · exact h
              · exact absurd h.1 (Nat.not_le_of_lt hx))
            cases p with
            | succ p =>
              have e : (((p + 1 : Nat) : Int) - 1) = p := by omega
              rw [e] at hi
              subst hi
              obtain ⟨v4, w4, hrun, hrow4, hfr4⟩ := hrow.push hgl ((six n).getD j 0) (by simp [six_length]; omega)
              have hrow4 := hrow4.join hfr.size hfr4.size
              rw [List.append_assoc, ← six_take n j (by omega)] at hrow4
              have c0 := hfr.cell (HC.out p (by omega)) (fun h => by
                have h1 := HS.out
                have h2 := HF2.out.size
                rcases h with h | h
                · exact h
                · exact absurd h.2 (Nat.not_lt_of_le h1.1))
              rw [low_high n p j (by omega)] at c0
              have HR4 := Lib.hid hrun
              have HW := Lib.hid hrow4
              have HF := Lib.hid (hfr.then_ hfr4 fun k hk h => Gr.old hk h)
              have hp5 : p < 6 := by omega
              generalize (six n).getD j 0 = cc at c0 HR4
              clear hrun hrow hrow4 hfr hfr4 hgl hall
              go_wp2_with (at_builtin; refine wpList_append_run rfl _ _ 51 rfl rfl rfl HR4.out ?_)
              go_roundw
              case rel => exact ⟨p, j + 1, by omega, rfl, HW.out, HF.out⟩
              case measure => simp [intOf]
            | zero =>
              have hj6 : j = 6 := by omega
              subst hj6
              have e : (((0 : Nat) : Int) - 1) = -1 := by omega
              rw [e] at hi
              subst hi
              obtain ⟨v4, w4, hrun, hrow4, hfr4⟩ := hrow.push hgl (UInt8.ofNat (255 - k).toNat) (by simp [six_length]; omega)
              have hrow4 := hrow4.join hfr.size hfr4.size
              rw [List.take_of_length_le (by rw [six_length]; omega), List.append_assoc, HE'.out] at hrow4
              rw [toNat_ofNat8, show (((255 - k).toNat % 256 : Nat) : Int) = 255 - k by omega] at hrun
              have c2 := (HA.out.keep hall (fun h => h)).cell 2
              simp at c2
              have HR4 := Lib.hid hrun
              have hfin : Fr No w w4 := HF0.out.trans ((HF2.out.trans HF3.out).then_ (hfr.then_ hfr4 fun k hk h => Gr.old hk h) (fun x hx h => by
                rcases h with h | h
                · exact h
                · exact absurd h.1 (Nat.not_le_of_lt hx)))
              have HN : Hid (NewRow Y w (.returned v4) w4) := Lib.hid ⟨_, rfl, hrow4.sub (fun k hk h => by
                have g1 := HF0.out.size
                have g2 := HF2.out.size
                have g3 := HF3.out.size
                rcases h with (h | h) | h
                · exact h.elim
                · exact .inr ⟨by omega, hk⟩
                · exact .inr ⟨by omega, hk⟩), hfin⟩
              clear hrun hrow hrow4 hfr hfr4 hgl hall hfin
              go_wp2_with (at_builtin; refine wpList_append_run rfl _ _ 51 rfl rfl rfl HR4.out ?_)
              go_ret
              exact HN.out
end Go.Proofs.YtihahckjcedceaaDoor
