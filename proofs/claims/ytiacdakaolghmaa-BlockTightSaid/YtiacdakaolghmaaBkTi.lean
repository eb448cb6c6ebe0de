/-
  Layer 12: the walk of BlockTight.
-/
import Derived.Test.YtiacdakaolghmaaBkC
import Derived.Test.YtiacdakaolghmaaBkF
namespace Go.Proofs.Ytiacdakaolghmaa
set_option linter.unusedVariables false
open Go.RowKit

def sumP (l : List Pr) : Nat → Nat
  | 0 => 0
  | k + 1 => sumP l k + ((l.getD k pr0).key.size + (l.getD k pr0).val.size)
theorem sumP_le {l : List Pr} (h : Low 300 l) : ∀ k, k ≤ l.length → sumP l k ≤ k * 600
  | 0, _ => by simp [sumP]
  | k + 1, hk => by
    have h1 := sumP_le h k (by omega)
    have h2 := h k (by omega)
    unfold sumP
    omega
theorem startsN_one (l : List Pr) : ∀ k, (startsN 1 l k).length = k
  | 0 => rfl
  | k + 1 => by
    unfold startsN
    rw [if_pos (Nat.mod_one k), List.length_append, startsN_one l k]
    rfl
theorem headN_one (l : List Pr) (i : Nat) : headN 1 l i = 0 := by
  unfold headN
  rw [if_pos (Nat.mod_one i)]
theorem pairB_length (e : Nat) (l : List Pr) (i : Nat) : (pairB e l i).length = (enc (headN e l i)).length + (enc ((l.getD i pr0).key.size - headN e l i)).length + (enc (l.getD i pr0).val.size).length + ((l.getD i pr0).key.size - headN e l i) + (l.getD i pr0).val.size := by
  unfold pairB
  simp only [List.length_append, List.length_drop, bs_length]
  omega
theorem pairsB_one (l : List Pr) : ∀ k, 3 * k + sumP l k ≤ (pairsB 1 l k).length
  | 0 => by simp [sumP]
  | k + 1 => by
    have h1 := pairsB_one l k
    have h2 := pairB_length 1 l k
    rw [headN_one] at h2
    have e1 := enc_pos 0
    have e2 := enc_pos ((l.getD k pr0).key.size - 0)
    have e3 := enc_pos (l.getD k pr0).val.size
    unfold sumP pairsB
    rw [List.length_append]
    omega
theorem enc_len_300 (n : Nat) (h : n ≤ 300) : (enc n).length = if n < 128 then 1 else 2 := by
  split
  · exact enc_len_small (by assumption)
  · rw [enc_len_big (by omega), enc_len_small (by omega)]
theorem pairsB_tight {l : List Pr} (h : Low 300 l) (e : Nat) : ∀ k, k ≤ l.length → (pairsB e l k).length ≤ (pairsB 1 l k).length
  | 0, _ => Nat.le_refl _
  | k + 1, hk => by
    have h1 := pairsB_tight h e k (by omega)
    have h2 := pairB_length 1 l k
    have h3 := pairB_length e l k
    have h4 := headN_le e l k
    have h5 := h k (by omega)
    rw [headN_one] at h2
    rw [enc_len_300 0 (by omega), enc_len_300 _ (by omega)] at h2
    rw [enc_len_300 (headN e l k) (by omega), enc_len_300 ((l.getD k pr0).key.size - headN e l k) (by omega)] at h3
    unfold pairsB
    rw [List.length_append, List.length_append]
    generalize (enc (l.getD k pr0).val.size).length = z at *
    split at h2 <;> split at h2 <;> split at h3 <;> split at h3 <;> omega
theorem block_tight {l : List Pr} (h : Low 300 l) : (blockB 64 l).length ≤ (blockB 1 l).length ∧ sumP l l.length + 7 * l.length + 5 ≤ (blockB 1 l).length := by
  have h1 := pairsB_tight h 64 l.length (Nat.le_refl _)
  have h2 := pairsB_one l l.length
  have h3 := startsN_len 64 l l.length
  have h4 := startsN_one l l.length
  rw [blockB_len, blockB_len]
  omega
set_option maxRecDepth 20000 in
set_option maxHeartbeats 6400000 in
theorem tight12_c {X : World → Nat → (Nat → Prop) → List Pr → Nat → Prop} (H : BlockOK X) (w : World) (a : Option Addr) (n cap : Nat) (l : List Pr)
    (hn : l.length = n) (hc : n ≤ cap) (hm : cap ≤ maxLen) (hp : Prs w (fun _ => True) a l) :
    Calls Try.prog 7 #[.slice a n cap] w (PlainRet (.bool true) w) := by
  have AW := Lib.hid (fun w => awake12_c H w)
  have CS := Lib.hid (small12_c a n cap l _ w hn (Nat.le_trans hc hm) hp)
  have hn' : n ≤ 9223372036854775807 := by unfold maxLen at hm; omega
  have HN := Lib.hid hn
  have HC := Lib.hid (show n ≤ cap ∧ cap ≤ maxLen from ⟨hc, hm⟩)
  have HP := Lib.hid hp
  have HH := Lib.hid H
  clear hn hc hm hp H
  by_cases hs : Small12 l
  · have dS : decide (Small12 l) = true := decide_eq_true hs
    rw [dS] at CS
    have HS := Lib.hid hs
    have h80 : n ≤ 80 := HN.out ▸ hs.2
    clear dS hs
    have CR := Lib.hid (fun (w' : World) (f : Fr No w w') => ref12_c a n cap l _ w' HN.out (by omega) (HP.out.keep f fun _ _ h => h))
    have CO := Lib.hid (fun (w' : World) (S : Nat → Prop) (a' : Option Addr) (c' : Nat) (hi : Prs w' S a' l) => refOrder_c S a' c' l w' (by rw [HN.out]; unfold maxLen; omega) hi (fun i hi => Nat.le_trans (HS.out.1 i hi).1 (by unfold maxLen; omega)))
    rw [HN.out] at CO
    by_cases ho : ordP l
    · have dO : decide (ordP l) = true := decide_eq_true ho
      rw [dO] at CO
      have HO := Lib.hid ho
      clear ho dO
      have CB := Lib.hid (fun (ee : Nat) (he1 : 1 ≤ ee) (he2 : ee ≤ 64) (w' : World) (f : Fr No w w') => build_ok HH.out w' _ a n cap l ee HN.out HC.out.1 HC.out.2 h80 HS.out.1 (HP.out.keep f fun _ _ h => h) he1 he2 HO.out)
      have BT := block_tight HS.out.1
      rw [HN.out] at BT
      have SL := Lib.hid (fun k (hk : k ≤ n) => sumP_le HS.out.1 k (by rw [HN.out]; exact hk))
      go_enter Try.func7, Try.ntmps7
      go_wp2_with fail
      refine (show Calls _ _ _ _ _ from CS.out).mono ?_
      rintro e w1 ⟨rfl, hf1⟩
      have HF1 := Lib.hid hf1
      clear hf1
      go_wp2_with fail
      refine (show Calls _ _ _ _ _ from CR.out _ HF1.out).mono ?_
      rintro e w2 ⟨v2, rfl, hr2, hf2⟩
      obtain ⟨a2, c2, rfl, _, _, hp2⟩ := hr2.prs
      have HF2 := Lib.hid (HF1.out.trans hf2)
      have C2 := Lib.hid (CO.out w2 _ a2 c2 hp2)
      rw [HN.out]
      clear hr2 hf2 hp2
      go_wp2_with fail
      refine (show Calls _ _ _ _ _ from C2.out).mono ?_
      rintro e w3 ⟨rfl, hf3⟩
      have HF3 := Lib.hid (HF2.out.trans hf3)
      clear hf3 C2
      go_wp2_with fail
      refine (show Calls _ _ _ _ _ from CB.out 1 (by omega) (by omega) _ HF3.out).mono ?_
      rintro e w4 ⟨v4, rfl, hr4, hf4⟩
      obtain ⟨a4, c4, rfl, hb4, hm4, hin4⟩ := hr4.form
      have HF4 := Lib.hid (HF3.out.trans hf4)
      obtain ⟨m4, hm4'⟩ : ∃ m, (blockB 1 l).length = m := ⟨_, rfl⟩
      rw [hm4'] at BT ⊢
      clear hr4 hf4 hin4 hb4 hm4 hm4'
      go_wp2_with fail
      refine (show Calls _ _ _ _ _ from CB.out 64 (by omega) (by omega) _ HF4.out).mono ?_
      rintro e w5 ⟨v5, rfl, hr5, hf5⟩
      obtain ⟨a5, c5, rfl, hb5, hm5, hin5⟩ := hr5.form
      have HF5 := Lib.hid (HF4.out.trans hf5)
      obtain ⟨m5, hm5'⟩ : ∃ m, (blockB 64 l).length = m := ⟨_, rfl⟩
      rw [hm5'] at BT ⊢
      clear hr5 hf5 hin5 hb5 hm5 hm5'
      have HBT := Lib.hid BT
      clear BT
      go_wp2_with fail
      go_loopw [7, 38] (fun s i wr => ∃ k : Nat, i = .int .i64 k ∧ s = .int .i64 (sumP l k : Int) ∧ k ≤ n ∧ Fr No w wr) (fun _ i _ => n - (intOf i).toNat)
      case atStart => exact ⟨0, rfl, rfl, Nat.zero_le _, HF5.out⟩
      case round =>
        obtain ⟨k, rfl, rfl, hk, hfr⟩ := hrel
        have HFR := Lib.hid hfr
        clear hfr
        by_cases hlt : k < n
        · have hkl : k < l.length := by rw [HN.out]; exact hlt
          obtain ⟨b, o, _, rfl, hxs⟩ := HP.out (by omega)
          have hx := (hxs k hkl).keep HFR.out (fun h => h)
          have hz := HS.out.1 k hkl
          have hsl := SL.out k hk
          have HSU : Hid (sumP l (k + 1) = sumP l k + ((l.getD k pr0).key.size + (l.getD k pr0).val.size)) := Lib.hid rfl
          generalize l.getD k pr0 = x at hx hz HSU
          obtain ⟨c0, c1⟩ := hx
          generalize sumP l k = q at HSU hsl ⊢
          have q1 : IntKind.i64.wrap ((x.key.size : Int) + (x.val.size : Int)) = (x.key.size : Int) + (x.val.size : Int) := IntWalk.i64_in _ (by omega)
          have q2 : IntKind.i64.wrap ((q : Int) + ((x.key.size : Int) + (x.val.size : Int))) = (q : Int) + ((x.key.size : Int) + (x.val.size : Int)) := IntWalk.i64_in _ (by omega)
          clear hxs
          go_wp2_with fail
          go_roundw
          case rel => exact ⟨k + 1, by simp, by rw [HSU.out]; congr 1, by omega, HFR.out.alloc _⟩
          case measure => simp [intOf]; omega
        · obtain rfl : k = n := by omega
          have hsl := SL.out k hk
          have BT := HBT.out
          obtain ⟨b1, b2⟩ := BT
          generalize sumP l k = q at hsl b2 ⊢
          have d1 : decide ((m5 : Int) ≤ (m4 : Int)) = true := by rw [decide_eq_true_eq]; omega
          have q1 : IntKind.i64.wrap (7 * (k : Int)) = 7 * (k : Int) := IntWalk.i64_in _ (by omega)
          have q2 : IntKind.i64.wrap ((q : Int) + 7 * (k : Int)) = (q : Int) + 7 * (k : Int) := IntWalk.i64_in _ (by omega)
          have q3 : IntKind.i64.wrap ((q : Int) + 7 * (k : Int) + 5) = (q : Int) + 7 * (k : Int) + 5 := IntWalk.i64_in _ (by omega)
          have d2 : decide ((m4 : Int) ≥ (q : Int) + 7 * (k : Int) + 5) = true := by rw [decide_eq_true_eq]; omega
          have b3 : ((m5 : Int) ≤ (m4 : Int)) := by omega
          have b4 : (q : Int) + 7 * (k : Int) + 5 ≤ (m4 : Int) := by omega
          go_wp2_with fail
          refine (AW.out _).mono ?_
          rintro e w6 ⟨rfl, hf6⟩
          have HF6 := Lib.hid (HFR.out.trans hf6)
          clear hf6
          go_wp2_with fail
          go_ret
          exact ⟨rfl, HF6.out⟩
    · have dO : decide (ordP l) = false := decide_eq_false ho
      rw [dO] at CO
      clear ho dO
      go_enter Try.func7, Try.ntmps7
      go_wp2_with fail
      refine (show Calls _ _ _ _ _ from CS.out).mono ?_
      rintro e w1 ⟨rfl, hf1⟩
      have HF1 := Lib.hid hf1
      clear hf1
      go_wp2_with fail
      refine (show Calls _ _ _ _ _ from CR.out _ HF1.out).mono ?_
      rintro e w2 ⟨v2, rfl, hr2, hf2⟩
      obtain ⟨a2, c2, rfl, _, _, hp2⟩ := hr2.prs
      have HF2 := Lib.hid (HF1.out.trans hf2)
      have C2 := Lib.hid (CO.out w2 _ a2 c2 hp2)
      rw [HN.out]
      clear hr2 hf2 hp2
      go_wp2_with fail
      refine (show Calls _ _ _ _ _ from C2.out).mono ?_
      rintro e w3 ⟨rfl, hf3⟩
      have HF3 := Lib.hid (HF2.out.trans hf3)
      clear hf3 C2
      go_wp2_with fail
      refine (AW.out _).mono ?_
      rintro e w4 ⟨rfl, hf4⟩
      go_wp2_with fail
      go_ret
      exact ⟨rfl, HF3.out.trans hf4⟩
  · have dS : decide (Small12 l) = false := decide_eq_false hs
    rw [dS] at CS
    clear dS hs
    go_enter Try.func7, Try.ntmps7
    go_wp2_with fail
    refine (show Calls _ _ _ _ _ from CS.out).mono ?_
    rintro e w1 ⟨rfl, hf1⟩
    have HF1 := Lib.hid hf1
    clear hf1
    go_wp2_with fail
    refine (AW.out _).mono ?_
    rintro e w2 ⟨rfl, hf2⟩
    go_wp2_with fail
    go_ret
    exact ⟨rfl, HF1.out.trans hf2⟩
theorem blockTight_walk {X : World → Nat → (Nat → Prop) → List Pr → Nat → Prop} (H : BlockOK X) (w : World) (a : Option Addr) (cap : Nat) (l : List Pr) (hc : l.length ≤ cap) (hm : cap ≤ maxLen) (hp : Prs w (fun _ => True) a l) (hw : ∀ x ∈ l, PrWf x) :
    Calls Try.prog 7 #[.slice a l.length cap] w fun e w' => e = .returned (.bool true) ∧ Below w.heap.size w w' :=
  (tight12_c H w a _ cap l rfl hc hm hp).mono fun _ _ h => ⟨h.1, h.2.below (Nat.le_refl _) (fun _ h => absurd h (fun h => h))⟩
end Go.Proofs.Ytiacdakaolghmaa
