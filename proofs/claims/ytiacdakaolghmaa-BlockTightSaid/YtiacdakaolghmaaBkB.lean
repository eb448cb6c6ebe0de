/-
  Layer 12: contracts of the document's Shared, Order, Find and word.
-/
import Derived.Test.YtiacdakaolghmaaBkN
import Derived.Test.YtiacdakaolghmaaIkBo
import Derived.Test.YtiacdakaolghmaaStrOf
import Derived.Deep.RegionHeld3
namespace Go.Proofs.Ytiacdakaolghmaa
set_option linter.unusedVariables false
open Go.RowKit

set_option maxRecDepth 20000 in
set_option maxHeartbeats 1600000 in
theorem refShared_c (s t : ByteArray) (hs : s.size ≤ maxLen) (ht : t.size ≤ maxLen) (w : World) :
    Calls Try.prog 25 #[.string s, .string t] w (PlainRet (.int .i64 (shL (bs s) (bs t) : Int)) w) := by
  unfold maxLen at hs ht
  go_enter Try.func25, Try.ntmps25
  go_wp2_with fail
  go_loopw [5] (fun i wr => ∃ k : Nat, i = .int .i64 k ∧ k ≤ s.size ∧ k ≤ t.size ∧ Fr No w wr ∧ shL (bs s) (bs t) = k + shL ((bs s).drop k) ((bs t).drop k)) (fun i _ => s.size - (intOf i).toNat)
  case atStart => exact ⟨0, rfl, Nat.zero_le _, Nat.zero_le _, Fr.refl _ _, by simp⟩
  case round =>
    obtain ⟨k, rfl, hk, hk', hfr, he⟩ := hrel
    have HF := Lib.hid hfr
    have HE := Lib.hid he
    clear hfr he
    by_cases h1 : k < s.size
    · by_cases h2 : k < t.size
      · have e1 : (bs s).getD k 0 = s[k] := ba_getD s k h1
        have e2 : (bs t).getD k 0 = t[k] := ba_getD t k h2
        have ST := sh_step (bs s) (bs t) k (by rw [bs_length]; exact h1) (by rw [bs_length]; exact h2) HE.out
        rw [e1, e2] at ST
        have HS := Lib.hid ST
        clear ST e1 e2
        have d0 : decide ((k : Int) ≥ (t.size : Int)) = false := by rw [decide_eq_false_iff_not]; omega
        by_cases h3 : s[k] = t[k]
        · have HR := Lib.hid (HS.out.2 h3)
          have h4 : ((s[k].toNat : Int) != (t[k].toNat : Int)) = false := by rw [h3]; simp
          go_wp2_with fail
          go_quiet (fail)
          go_wp2_with fail
          go_roundw
          case rel => exact ⟨k + 1, by simp, by omega, by omega, HF.out.drewN _, HR.out⟩
          case measure => simp [intOf]; omega
        · have HR := Lib.hid (HS.out.1 h3)
          have h4 : ((s[k].toNat : Int) != (t[k].toNat : Int)) = true := by
            rw [bne_iff_ne]
            exact fun h => h3 (UInt8.toNat_inj.1 (by omega))
          go_wp2_with fail
          go_quiet (fail)
          go_wp2_with fail
          go_ret
          exact ⟨by rw [HR.out]; rfl, HF.out.drewN _⟩
      · have HR := Lib.hid (sh_end (bs s) (bs t) k (.inr (by rw [bs_length]; omega)) HE.out)
        have d0 : decide ((k : Int) ≥ (t.size : Int)) = true := by rw [decide_eq_true_eq]; omega
        go_wp2_with fail
        go_quiet (fail)
        go_wp2_with fail
        go_ret
        exact ⟨by rw [HR.out]; rfl, HF.out.drewN _⟩
    · have hks : k = s.size := by omega
      have HR := Lib.hid (sh_end (bs s) (bs t) k (.inl (by rw [bs_length]; omega)) HE.out)
      rw [hks] at HR
      go_wp2_with fail
      go_ret
      exact ⟨by rw [HR.out]; rfl, HF.out⟩

set_option maxRecDepth 20000 in
set_option maxHeartbeats 1600000 in
theorem refFind_c (S : Nat → Prop) (a : Option Addr) (cap : Nat) (l : List Pr) (kk : ByteArray) (w : World) (hm : l.length ≤ maxLen) (hi : Prs w S a l) (hw : ∀ i, i < l.length → (l.getD i pr0).key.size ≤ maxLen) (hk : kk.size ≤ maxLen) :
    Calls Try.prog 23 #[.slice a l.length cap, .string kk] w (PlainRet (.int .i64 (findP l kk : Int)) w) := by
  obtain ⟨len, hlen⟩ : ∃ len, l.length = len := ⟨_, rfl⟩
  have HC : Hid (∀ (i : Nat) (w : World), i < len → Calls Try.prog 30 #[.string (l.getD i pr0).key, .string kk] w (PlainRet (.int .i64 (cmpB (bs (l.getD i pr0).key) (bs kk))) w)) := Lib.hid fun i w h => orderE_c _ _ (hw i (by omega)) hk w
  have HS : Hid (∀ i, i < len → findP l kk = findG l kk (len - i) i → (notBelow l kk i → findP l kk = i) ∧ (¬ notBelow l kk i → findP l kk = findG l kk (len - (i + 1)) (i + 1))) := Lib.hid fun i h1 h2 => by
    rw [← hlen] at h2 ⊢
    exact find_step l kk i (by omega) h2
  unfold notBelow at HS
  simp only [Int.not_le] at HS
  unfold maxLen at hm
  have HI := Lib.hid hi
  have hz : findP l kk = findG l kk len 0 := by unfold findP; rw [hlen]
  have HZ := Lib.hid hz
  rw [hlen] at hm ⊢
  have HL := Lib.hid hlen
  clear hi hlen hw hk hz
  go_enter Try.func23, Try.ntmps23
  go_wp2_with fail
  go_loopw [5] (fun i wr => ∃ k : Nat, i = .int .i64 k ∧ k ≤ len ∧ Fr No w wr ∧ findP l kk = findG l kk (len - k) k) (fun i _ => len - (intOf i).toNat)
  case atStart => exact ⟨0, rfl, Nat.zero_le _, Fr.refl _ _, HZ.out⟩
  case round =>
    obtain ⟨k, rfl, hk, hfr, he⟩ := hrel
    have HF := Lib.hid hfr
    have HE := Lib.hid he
    clear hfr he
    by_cases hlt : k < len
    · have hkl : k < l.length := by rw [HL.out]; exact hlt
      obtain ⟨b, o, _, rfl, hx⟩ := HI.out (by omega)
      have hx := (hx k hkl).keep HF.out (fun h => h)
      have HC1 := Lib.hid (HC.out k wr hlt)
      have HS1 := Lib.hid (HS.out k hlt HE.out)
      generalize l.getD k pr0 = x at hx HC1 HS1
      obtain ⟨c0, c1⟩ := hx
      generalize cmpB (bs x.key) (bs kk) = c at HC1 HS1
      go_wp2_with fail
      refine HC1.out.mono ?_
      rintro e w1 ⟨rfl, hf1⟩
      have HF1 := Lib.hid (HF.out.trans hf1)
      clear hf1
      by_cases h3 : 0 ≤ c
      · have HR := Lib.hid (HS1.out.1 h3)
        go_wp2_with fail
        go_ret
        exact ⟨by rw [HR.out]; rfl, HF1.out⟩
      · have HR := Lib.hid (HS1.out.2 (by omega))
        go_wp2_with fail
        go_roundw
        case rel => exact ⟨k + 1, by simp, by omega, HF1.out, HR.out⟩
        case measure => simp [intOf]; omega
    · have hkl : k = len := by omega
      have HR : Hid (findP l kk = len) := Lib.hid (by have := HE.out; rw [hkl, Nat.sub_self] at this; exact this)
      go_wp2_with fail
      go_ret
      exact ⟨by rw [HR.out]; rfl, HF.out⟩
set_option maxRecDepth 20000 in
set_option maxHeartbeats 1600000 in
theorem refOrder_c (S : Nat → Prop) (a : Option Addr) (cap : Nat) (l : List Pr) (w : World) (hm : l.length ≤ maxLen) (hi : Prs w S a l) (hw : ∀ i, i < l.length → (l.getD i pr0).key.size ≤ maxLen) :
    Calls Try.prog 12 #[.slice a l.length cap] w (PlainRet (.bool (decide (ordP l))) w) := by
  obtain ⟨len, hlen⟩ : ∃ len, l.length = len := ⟨_, rfl⟩
  have HC : Hid (∀ (i : Nat) (w : World), i < len → 1 ≤ i → Calls Try.prog 30 #[.string (l.getD (i - 1) pr0).key, .string (l.getD i pr0).key] w (PlainRet (.int .i64 (cmpP l (i - 1) i)) w)) := Lib.hid fun i w h _ => orderE_c _ _ (hw (i - 1) (by omega)) (hw i (by omega)) w
  have HY : Hid ((∀ j, 1 ≤ j → j < len → cmpP l (j - 1) j < 0) → decide (ordP l) = true) := Lib.hid fun h => by
    rw [decide_eq_true_eq]
    intro j h1 h2
    exact h j h1 (hlen ▸ h2)
  have HN : Hid (∀ j, 1 ≤ j → j < len → 0 ≤ cmpP l (j - 1) j → decide (ordP l) = false) := Lib.hid fun j h1 h2 h3 => by
    rw [decide_eq_false_iff_not]
    intro h
    have := h j h1 (hlen ▸ h2)
    omega
  unfold maxLen at hm
  have HI := Lib.hid hi
  rw [hlen] at hm ⊢
  have HL := Lib.hid hlen
  clear hi hlen hw
  generalize decide (ordP l) = R at *
  go_enter Try.func12, Try.ntmps12
  go_wp2_with fail
  go_loopw [3] (fun i wr => ∃ k : Nat, i = .int .i64 k ∧ 1 ≤ k ∧ (k ≤ len ∨ k = 1) ∧ Fr No w wr ∧ ∀ j, 1 ≤ j → j < k → cmpP l (j - 1) j < 0) (fun i _ => len - (intOf i).toNat)
  case atStart => exact ⟨1, rfl, Nat.le_refl _, .inr rfl, Fr.refl _ _, fun j h1 h2 => by omega⟩
  case round =>
    obtain ⟨k, rfl, hk1, hk, hfr, he⟩ := hrel
    have HF := Lib.hid hfr
    have HE := Lib.hid he
    have HK := Lib.hid hk
    clear hfr he hk
    by_cases hlt : k < len
    · have hkl : k < l.length := by rw [HL.out]; exact hlt
      obtain ⟨b, o, _, rfl, hx⟩ := HI.out (by omega)
      have hy := (hx (k - 1) (by omega)).keep HF.out (fun h => h)
      have hx := (hx k hkl).keep HF.out (fun h => h)
      have HC1 := Lib.hid (fun w => HC.out k w hlt hk1)
      have HN1 := Lib.hid (HN.out k hk1 hlt)
      have HY1 : Hid (cmpP l (k - 1) k < 0 → ∀ j, 1 ≤ j → j < k + 1 → cmpP l (j - 1) j < 0) := Lib.hid fun h j h1 h2 => by
        rcases Nat.lt_or_ge j k with h' | h'
        · exact HE.out j h1 h'
        · obtain rfl : j = k := by omega
          exact h
      generalize cmpP l (k - 1) k = c at HC1 HN1 HY1
      obtain ⟨m, hmk⟩ : ∃ m, k - 1 = m := ⟨_, rfl⟩
      rw [hmk] at hy HC1
      generalize l.getD m pr0 = y at hy HC1
      generalize l.getD k pr0 = x at hx HC1
      obtain ⟨c0, c1⟩ := hx
      obtain ⟨g0, g1⟩ := hy
      have hfx := HF.out.drew
      have hm1 : (k : Int) - 1 = (m : Int) := by omega
      have hm0 : (0 : Int) ≤ (m : Int) := by omega
      have hwr : IntKind.i64.wrap ((k : Int) - 1) = (m : Int) := by rw [hm1]; exact IntWalk.i64_in _ (by omega)
      have hwm : IntKind.i64.wrap (m : Int) = (m : Int) := IntWalk.i64_in _ (by omega)
      have hml : (m : Int) < (len : Int) := by omega
      by_cases h3 : 0 ≤ c
      · have HR := Lib.hid (HN1.out h3)
        have d0 : decide (c ≥ 0) = true := decide_eq_true h3
        go_wp2_with fail
        go_region_held3 (fun w' => w'.cell? ⟨b, o + m * 2, none⟩ = some (.string y.key) ∧ w'.cell? ⟨b, o + k * 2, none⟩ = some (.string x.key) ∧ Fr No w w') (first | assumption | go_keep)
          (first
            | (go_at_call 30; refine (HC1.out _).mono ?_; intro e w6 hret; obtain ⟨rfl, hf6⟩ := hret
               have g0 := hf6.cell (p := ⟨b, o + m * 2, none⟩) g0 (fun h => h)
               have c0 := hf6.cell (p := ⟨b, o + k * 2, none⟩) c0 (fun h => h)
               have hfx := hfx.trans hf6
               clear hf6))
        have HFX := Lib.hid hfx
        clear hfx
        go_wp2_with fail
        go_ret
        exact ⟨by rw [HR.out]; rfl, HFX.out⟩
      · have HR := Lib.hid (HY1.out (by omega))
        have d0 : decide (c ≥ 0) = false := decide_eq_false h3
        go_wp2_with fail
        go_region_held3 (fun w' => w'.cell? ⟨b, o + m * 2, none⟩ = some (.string y.key) ∧ w'.cell? ⟨b, o + k * 2, none⟩ = some (.string x.key) ∧ Fr No w w') (first | assumption | go_keep)
          (first
            | (go_at_call 30; refine (HC1.out _).mono ?_; intro e w6 hret; obtain ⟨rfl, hf6⟩ := hret
               have g0 := hf6.cell (p := ⟨b, o + m * 2, none⟩) g0 (fun h => h)
               have c0 := hf6.cell (p := ⟨b, o + k * 2, none⟩) c0 (fun h => h)
               have hfx := hfx.trans hf6
               clear hf6))
        have HFX := Lib.hid hfx
        clear hfx
        go_wp2_with fail
        go_roundw
        case rel => exact ⟨k + 1, by simp, by omega, by omega, HFX.out, HR.out⟩
        case measure => simp [intOf]; omega
    · have HR := Lib.hid (HY.out fun j h1 h2 => HE.out j h1 (by omega))
      go_wp2_with fail
      go_ret
      exact ⟨by rw [HR.out]; rfl, HF.out⟩
end Go.Proofs.Ytiacdakaolghmaa
