/-
  Layer 12: the walk of BlockShares.
-/
import Derived.Test.YtiacdakaolghmaaBkY
namespace Go.Proofs.Ytiacdakaolghmaa
set_option linter.unusedVariables false
open Go.RowKit

theorem extract_bs (s : ByteArray) (n : Nat) : bs (s.extract 0 n) = (bs s).take n := by
  unfold bs
  rw [ByteArray.data_extract, Array.toList_extract, List.extract_eq_take_drop]
  simp
theorem bs_inj {s t : ByteArray} (h : bs s = bs t) : s = t := by
  rcases s with ⟨⟨a⟩⟩
  rcases t with ⟨⟨b⟩⟩
  unfold bs at h
  simp only at h
  rw [h]
set_option maxRecDepth 20000 in
set_option maxHeartbeats 3200000 in
theorem shares_c {X : World → Nat → (Nat → Prop) → List Pr → Nat → Prop} (H : BlockOK X) (s t : ByteArray) (w : World) (hs : s.size ≤ maxLen) (ht : t.size ≤ maxLen) :
    Calls Try.prog 6 #[.string s, .string t] w (PlainRet (.bool true) w) := by
  have HW := Lib.hid (fun w => awake12_c H w)
  have C1 := Lib.hid (fun w => H.shared w s t hs ht)
  have C2 := fun w => H.shared w t s ht hs
  rw [shL_comm] at C2
  have C2 := Lib.hid C2
  have C3 := Lib.hid (fun w => refShared_c s t hs ht w)
  unfold maxLen at hs ht
  clear H
  have hn1 := (shL_le (bs s) (bs t)).1
  have hn2 := (shL_le (bs s) (bs t)).2
  rw [bs_length] at hn1 hn2
  have hx : s.extract 0 (shL (bs s) (bs t)) = t.extract 0 (shL (bs s) (bs t)) := bs_inj (by rw [extract_bs, extract_bs, shL_take])
  generalize shL (bs s) (bs t) = n at *
  obtain ⟨p, hp⟩ : ∃ p, t.extract 0 n = p := ⟨_, rfl⟩
  rw [hp] at hx
  have hn1' : (n : Int) ≤ (s.size : Int) := by omega
  have hn2' : (n : Int) ≤ (t.size : Int) := by omega
  have hn0 : (0 : Int) ≤ (n : Int) := by omega
  by_cases h1 : 1000 < (s.size : Int)
  · go_enter Try.func6, Try.ntmps6
    go_wp2_with fail
    refine (HW.out _).mono ?_
    rintro e w2 ⟨rfl, hf2⟩
    go_wp2_with fail
    go_ret
    exact ⟨rfl, hf2⟩
  · by_cases h2 : 1000 < (t.size : Int)
    · go_enter Try.func6, Try.ntmps6
      go_wp2_with fail
      refine (HW.out _).mono ?_
      rintro e w2 ⟨rfl, hf2⟩
      go_wp2_with fail
      go_ret
      exact ⟨rfl, hf2⟩
    · go_enter Try.func6, Try.ntmps6
      go_wp2_with fail
      refine (C1.out _).mono ?_
      rintro e w2 ⟨rfl, hf2⟩
      have hfx := hf2.drew
      clear hf2
      go_wp2_with fail
      go_region_held3 (fun w' => Fr No w w') (first | assumption | go_keep)
        (first
          | (go_at_call 24; refine (C2.out _).mono ?_; intro e w6 hret; obtain ⟨rfl, hf6⟩ := hret
             have hfx := hfx.trans hf6
             clear hf6)
          | (go_at_call 25; refine (C3.out _).mono ?_; intro e w6 hret; obtain ⟨rfl, hf6⟩ := hret
             have hfx := hfx.trans hf6
             clear hf6)
          | (go_at_call 10; refine (HW.out _).mono ?_; intro e w6 hret; obtain ⟨rfl, hf6⟩ := hret
             have hfx := hfx.trans hf6
             clear hf6))
      have HFX := Lib.hid hfx
      clear hfx
      go_wp2_with fail
      go_ret
      exact ⟨rfl, HFX.out⟩
theorem blockShares_walk {X : World → Nat → (Nat → Prop) → List Pr → Nat → Prop} (H : BlockOK X) (w : World) (s : ByteArray) (hs : s.size ≤ maxLen) (t : ByteArray) (ht : t.size ≤ maxLen) :
    Calls Try.prog 6 #[.string s, .string t] w fun e w' => e = .returned (.bool true) ∧ Below w.heap.size w w' :=
  (shares_c H s t w hs ht).mono fun _ _ h => ⟨h.1, h.2.below (Nat.le_refl _) (fun _ h => absurd h (fun h => h))⟩
end Go.Proofs.Ytiacdakaolghmaa
