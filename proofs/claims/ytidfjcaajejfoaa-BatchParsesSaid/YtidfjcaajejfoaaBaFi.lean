/-
  Layer 10: BatchFinds.
-/
import Derived.Test.YtidfjcaajejfoaaBaPa
import Derived.Deep.RegionHeld3
namespace Go.Proofs.Ytidfjcaajejfoaa
set_option linter.unusedVariables false
open Go.RowKit

/-- An op in a block of its own. -/
theorem box_op (w : World) (x : Op10) :
    ∃ W, w.alloc (.cells #[.int .i64 x.k, .string x.key, .string x.val] 30) = W ∧ Fr No w W ∧ OpAt W w.heap.size 0 x :=
  ⟨_, rfl, (Fr.refl _ _).alloc _, by rw [cell_of_row _ w.heap.size 0 _ _ (0, 0) (heap_alloc_new w _)]; rfl, by rw [cell_of_row _ w.heap.size 1 _ _ (0, 0) (heap_alloc_new w _)]; rfl, by rw [cell_of_row _ w.heap.size 2 _ _ (0, 0) (heap_alloc_new w _)]; rfl⟩
theorem toList_eq_iff (s t : ByteArray) : (s.toList == t.toList) = decide (s = t) := by
  rw [ByteArray.toList_eq, ByteArray.toList_eq]
  rcases s with ⟨⟨l⟩⟩
  rcases t with ⟨⟨m⟩⟩
  by_cases h : l = m
  · subst h; simp
  · simp [h]
theorem wantI_lt (l : List Op10) (key : ByteArray) : ∀ n, -1 ≤ wantI l key n ∧ wantI l key n < (n : Int)
  | 0 => by simp [wantI]
  | n + 1 => by
    have := wantI_lt l key n
    unfold wantI
    split <;> omega
set_option maxRecDepth 20000 in
set_option maxHeartbeats 3200000 in
theorem bfinds_c (H : BatchOK) (w : World) (q : Int) (a : Option Addr) (ca : Nat) (l : List Op10) (key : ByteArray) (wq : (Lit.int .i64 q).wf = true) (h1 : l.length ≤ ca) (h2 : ca ≤ maxLen) (hi : Ops w (fun _ => True) a l) (hwf : ∀ x ∈ l, OpWf x) (hk : key.size ≤ maxLen) :
    Calls Try.prog 6 #[.agg #[.int .i64 q, .slice a l.length ca], .string key] w (Ask (.bool true) w) := by
  have h1' : l.length ≤ maxLen := Nat.le_trans h1 h2
  obtain ⟨W, hW, hfW, m0, m1⟩ := box_batch w q (.slice a l.length ca)
  have HS := Lib.hid (small10_c q a ca l W h1' (hi.keep hfW fun _ _ h => h))
  have HSY := Lib.hid (fun h => (small10_yes (l := l) h).1)
  have HFI := Lib.hid (fun (w' : World) (f : Fr No w w') => H.find q a ca l key w' _ wq h1 h2 (hi.keep f fun _ _ h => h) hwf)
  obtain ⟨n, hn⟩ : ∃ n, l.length = n := ⟨_, rfl⟩
  rw [hn] at h1 HS HSY HFI m1 hW ⊢
  have HH := Lib.hid H
  have HW := Lib.hid hW
  have HFW := Lib.hid hfW
  have HI := Lib.hid hi
  have HN := Lib.hid hn
  unfold maxLen at hk
  clear hW hfW hi hn h1 h2 h1' H hwf wq
  cases hs : small10 l with
  | false =>
    rw [hs] at HS
    go_enter Try.func6, Try.ntmps6
    go_wp2_with fail
    rw [HW.out]
    go_wp2_with fail
    refine HS.out.mono ?_
    rintro e w1 ⟨rfl, hf1⟩
    have HF1 := Lib.hid (HFW.out.trans hf1)
    clear hf1
    go_wp2_with fail
    refine (awake10_c HH.out _).mono ?_
    rintro e w5 ⟨rfl, hf5⟩
    have HF5 := Lib.hid hf5
    clear hf5
    go_wp2_with fail
    go_ret
    exact ⟨rfl, HF1.out.trans HF5.out⟩
  | true =>
    rw [hs] at HS
    have h70 := HSY.out hs
    by_cases hk5 : (key.size : Int) > 500
    · go_enter Try.func6, Try.ntmps6
      go_wp2_with fail
      rw [HW.out]
      go_wp2_with fail
      refine HS.out.mono ?_
      rintro e w1 ⟨rfl, hf1⟩
      have HF1 := Lib.hid (HFW.out.trans hf1)
      clear hf1
      go_wp2_with fail
      refine (awake10_c HH.out _).mono ?_
      rintro e w5 ⟨rfl, hf5⟩
      have HF5 := Lib.hid hf5
      clear hf5
      go_wp2_with fail
      go_ret
      exact ⟨rfl, HF1.out.trans HF5.out⟩
    · go_enter Try.func6, Try.ntmps6
      go_wp2_with fail
      rw [HW.out]
      go_wp2_with fail
      refine HS.out.mono ?_
      rintro e w1 ⟨rfl, hf1⟩
      have HF1 := Lib.hid (HFW.out.trans hf1)
      have o0 := hf1.cell m0 (fun h => h)
      have o1 := hf1.cell m1 (fun h => h)
      clear hf1 m0 m1 HS HSY HW
      go_wp2_with fail
      refine (HFI.out w1 HF1.out).mono ?_
      rintro e w2 ⟨rfl, hf2⟩
      have HF2 := Lib.hid (HF1.out.trans hf2)
      have p0 := hf2.cell o0 (fun h => h)
      have p1 := hf2.cell o1 (fun h => h)
      clear hf2 o0 o1 HFI HF1
      obtain ⟨wI, hwI⟩ : ∃ z, wantI l key n = z := ⟨_, rfl⟩
      obtain ⟨z1, z2⟩ := wantI_lt l key n
      rw [hwI] at z1 z2 ⊢
      obtain ⟨x, hx⟩ : ∃ x, (if wI < 0 then op0 else l.getD wI.toNat op0) = x := ⟨_, rfl⟩
      have hx' : (if wI < 0 then opV op0 else opV (l.getD wI.toNat op0)) = opV x := by rw [← hx]; split <;> rfl
      rw [hx']
      unfold opV
      obtain ⟨W3, hW3, hf3, hat⟩ := box_op w2 x
      have HF3 := Lib.hid (HF2.out.trans hf3)
      have HAT := Lib.hid hat
      have r0 := hf3.cell p0 (fun h => h)
      have r1 := hf3.cell p1 (fun h => h)
      rw [← hW3] at r1
      have HW3 := Lib.hid hW3
      have HX := Lib.hid hx
      have HWI := Lib.hid hwI
      clear hW3 hf3 hat p0 p1 hx hx' hwI HF2 r0
      go_wp2_with fail
      rw [HW3.out] at r1 ⊢
      clear HW3
      obtain ⟨B, hB⟩ : ∃ B, w.heap.size = B := ⟨_, rfl⟩
      obtain ⟨B2, hB2⟩ : ∃ B2, w2.heap.size = B2 := ⟨_, rfl⟩
      rw [hB] at r1 ⊢
      rw [hB2] at HAT ⊢
      clear hB hB2
      go_loopw [7, 27] (fun v i wr => ∃ k : Nat, i = .int .i64 k ∧ k ≤ n ∧ v = .int .i64 (wantI l key k) ∧ wr = W3) (fun _ i _ => n - (intOf i).toNat)
      case atStart => exact ⟨0, rfl, Nat.zero_le _, rfl, rfl⟩
      case round =>
        obtain ⟨k, rfl, hkn, rfl, rfl⟩ := hrel
        by_cases hlt : k < n
        · have hkl : k < l.length := by rw [HN.out]; exact hlt
          obtain ⟨b, o, _, rfl, hxs⟩ := HI.out (by omega)
          have e1 := (hxs k hkl).keep HF3.out (fun h => h)
          have HWK : Hid (wantI l key (k + 1) = if (l.getD k op0).key = key then (k : Int) else wantI l key k) := Lib.hid rfl
          generalize l.getD k op0 = y at e1 HWK
          obtain ⟨c0, c1, c2⟩ := e1
          have ht := toList_eq_iff y.key key
          obtain ⟨v, hv⟩ : ∃ v, wantI l key k = v := ⟨_, rfl⟩
          rw [hv] at HWK ⊢
          clear hv
          by_cases hky : y.key = key
          · have hb : (y.key.toList == key.toList) = true := by rw [ht]; simpa using hky
            rw [if_pos hky] at HWK
            clear ht hky
            go_wp2_with fail
            go_roundw
            case rel => exact ⟨k + 1, by simp, by omega, by rw [HWK.out], trivial⟩
            case measure => simp [intOf]; omega
          · have hb : (y.key.toList == key.toList) = false := by rw [ht]; simpa using hky
            rw [if_neg hky] at HWK
            clear ht hky
            go_wp2_with fail
            go_roundw
            case rel => exact ⟨k + 1, by simp, by omega, by rw [HWK.out], trivial⟩
            case measure => simp [intOf]; omega
        · have hkn' : k = n := by omega
          have e2 : wantI l key k = wI := by rw [hkn']; exact HWI.out
          rw [e2]
          have HK := Lib.hid hkn'
          clear e2 hkn' hkn
          by_cases hw : wI < 0
          · have e3 : decide (0 ≤ wI) = false := by simpa using hw
            rw [e3]
            have hx := HX.out
            rw [if_pos hw] at hx
            subst hx
            obtain ⟨g0, g1, g2⟩ := HAT.out
            have d1 : (ByteArray.empty.toList == (⟨#[]⟩ : ByteArray).toList) = true := by
              rw [show ByteArray.empty = (⟨#[]⟩ : ByteArray) from rfl]
              exact beq_self_eq_true _
            simp only [op0] at g0 g1 g2
            clear e3
            go_wp2_with fail
            refine (awake10_c HH.out _).mono ?_
            rintro e w5 ⟨rfl, hf5⟩
            have HF5 := Lib.hid hf5
            clear hf5
            go_wp2_with fail
            go_ret
            exact ⟨rfl, HF3.out.trans HF5.out⟩
          · have e3 : decide (0 ≤ wI) = true := by simpa using hw
            rw [e3]
            have hx := HX.out
            rw [if_neg hw] at hx
            obtain ⟨i, hi⟩ : ∃ i : Nat, wI = (i : Int) := ⟨wI.toNat, by omega⟩
            subst hi
            have hil : i < l.length := by rw [HN.out]; omega
            obtain ⟨b, o, _, rfl, hxs⟩ := HI.out (by omega)
            have e1 := (hxs i hil).keep HF3.out (fun h => h)
            rw [show ((i : Int)).toNat = i from rfl] at hx
            rw [hx] at e1
            obtain ⟨c0, c1, c2⟩ := e1
            obtain ⟨g0, g1, g2⟩ := HAT.out
            have d0 : (x.k == x.k) = true := beq_self_eq_true _
            have d1 : (x.key.toList == x.key.toList) = true := beq_self_eq_true _
            have d2 : (x.val.toList == x.val.toList) = true := beq_self_eq_true _
            clear e3 hx hxs
            go_wp2_with fail
            go_region_held3 (fun w' => w'.cell? ⟨B2, 0, none⟩ = some (.int .i64 x.k) ∧ w'.cell? ⟨B2, 0 + 1, none⟩ = some (.string x.key) ∧ w'.cell? ⟨B2, 0 + 2, none⟩ = some (.string x.val) ∧ w'.cell? ⟨B, 1, none⟩ = some (.slice (some ⟨b, o, none⟩) n ca) ∧
                w'.cell? ⟨b, o + i * 3, none⟩ = some (.int .i64 x.k) ∧ w'.cell? ⟨b, o + i * 3 + 1, none⟩ = some (.string x.key) ∧ w'.cell? ⟨b, o + i * 3 + 2, none⟩ = some (.string x.val)) (first | assumption | go_keep)
              (first
                | (go_at_call 10; refine (awake10_c HH.out _).mono ?_; intro e w5 hret; obtain ⟨rfl, hf5⟩ := hret
                   have g0 := hf5.cell (p := ⟨B2, 0, none⟩) g0 (fun h => h)
                   have g1 := hf5.cell (p := ⟨B2, 0 + 1, none⟩) g1 (fun h => h)
                   have g2 := hf5.cell (p := ⟨B2, 0 + 2, none⟩) g2 (fun h => h)
                   have r1 := hf5.cell (p := ⟨B, 1, none⟩) r1 (fun h => h)
                   have c0 := hf5.cell (p := ⟨b, o + i * 3, none⟩) c0 (fun h => h)
                   have c1 := hf5.cell (p := ⟨b, o + i * 3 + 1, none⟩) c1 (fun h => h)
                   have c2 := hf5.cell (p := ⟨b, o + i * 3 + 2, none⟩) c2 (fun h => h)
                   have HF5 := Lib.hid hf5
                   clear hf5))
            go_wp2_with fail
            go_ret
            exact ⟨rfl, HF3.out.drew.trans HF5.out⟩
theorem batchFinds_walk (H : BatchOK) (w : World) (q : Int) (wq : (Lit.int .i64 q).wf = true) (a : Option Addr) (ca : Nat) (l : List Op10) (h1 : l.length ≤ ca) (h2 : ca ≤ maxLen) (hi : Ops w (fun _ => True) a l) (hwf : ∀ x ∈ l, OpWf x) (key : ByteArray) (hk : key.size ≤ maxLen) :
    Calls Try.prog 6 #[.agg #[.int .i64 q, .slice a l.length ca], .string key] w fun e w' => e = .returned (.bool true) ∧ Below w.heap.size w w' := (bfinds_c H w q a ca l key wq h1 h2 hi hwf hk).mono fun _ _ h => h.below
end Go.Proofs.Ytidfjcaajejfoaa
