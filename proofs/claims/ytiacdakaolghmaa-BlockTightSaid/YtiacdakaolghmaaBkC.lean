/-
  Layer 12: contracts of the law's small and ref.
-/
import Derived.Test.YtiacdakaolghmaaBkY
namespace Go.Proofs.Ytiacdakaolghmaa
set_option linter.unusedVariables false
open Go.RowKit

def Small12 (l : List Pr) : Prop := Low 300 l ∧ l.length ≤ 80
instance (l : List Pr) : Decidable (Low 300 l) := decidable_of_iff (∀ i, i < l.length → (l.getD i pr0).key.size ≤ 300 ∧ (l.getD i pr0).val.size ≤ 300) Iff.rfl
instance (l : List Pr) : Decidable (Small12 l) := by unfold Small12; infer_instance
set_option maxRecDepth 20000 in
set_option maxHeartbeats 1600000 in
theorem small12_c (a : Option Addr) (n cap : Nat) (l : List Pr) (S : Nat → Prop) (w : World) (hn : l.length = n) (hm : n ≤ maxLen) (hi : Prs w S a l) :
    Calls Try.prog 9 #[.slice a n cap] w (PlainRet (.bool (decide (Small12 l))) w) := by
  unfold maxLen at hm
  have HNO : Hid (∀ k, k < n → (300 < (l.getD k pr0).key.size ∨ 300 < (l.getD k pr0).val.size) → decide (Small12 l) = false) := Lib.hid fun k hk h => by
    rw [decide_eq_false_iff_not]
    intro h'
    have := h'.1 k (by omega)
    omega
  have HYES : Hid ((∀ j, j < n → (l.getD j pr0).key.size ≤ 300 ∧ (l.getD j pr0).val.size ≤ 300) → decide (Small12 l) = decide (n ≤ 80)) := Lib.hid fun h => by
    exact decide_eq_decide.2 ⟨fun h' => hn ▸ h'.2, fun h' => ⟨fun i hi => h i (by omega), by omega⟩⟩
  have HI := Lib.hid hi
  have HL := Lib.hid hn
  clear hi hn
  generalize decide (Small12 l) = R at *
  go_enter Try.func9, Try.ntmps9
  go_wp2_with fail
  go_loopw [7] (fun i wr => ∃ k : Nat, i = .int .i64 k ∧ k ≤ n ∧ Fr No w wr ∧ ∀ j, j < k → (l.getD j pr0).key.size ≤ 300 ∧ (l.getD j pr0).val.size ≤ 300) (fun i _ => n - (intOf i).toNat)
  case atStart => exact ⟨0, rfl, Nat.zero_le _, Fr.refl _ _, fun j h => absurd h (by omega)⟩
  case round =>
    obtain ⟨k, rfl, hk, hfr, hall⟩ := hrel
    have HA := Lib.hid hall
    have HR := Lib.hid hfr
    clear hall hfr
    by_cases hlt : k < n
    · have hkl : k < l.length := by rw [HL.out]; exact hlt
      obtain ⟨b, o, _, rfl, hx⟩ := HI.out (by omega)
      have hx := (hx k hkl).keep HR.out (fun h => h)
      have HK := Lib.hid (HNO.out k hlt)
      obtain ⟨x, hy⟩ : ∃ x, l.getD k pr0 = x := ⟨_, rfl⟩
      rewrite [hy] at hx HK
      have HY := Lib.hid hy
      clear hy
      obtain ⟨c0, c1⟩ := hx
      by_cases h5 : 300 < (x.key.size : Int)
      · have HN := Lib.hid (HK.out (.inl (by omega)))
        go_wp2_with fail
        go_ret
        exact ⟨by rw [HN.out]; rfl, HR.out.alloc _⟩
      · by_cases h6 : 300 < (x.val.size : Int)
        · have HN := Lib.hid (HK.out (.inr (by omega)))
          go_wp2_with fail
          go_ret
          exact ⟨by rw [HN.out]; rfl, HR.out.alloc _⟩
        · have HA2 : Hid (∀ j, j < k + 1 → (l.getD j pr0).key.size ≤ 300 ∧ (l.getD j pr0).val.size ≤ 300) := Lib.hid (fun j hj => by
            rcases Nat.lt_or_ge j k with h | h
            · exact HA.out j h
            · have : j = k := by omega
              subst this
              rw [HY.out]
              omega)
          go_wp2_with fail
          go_roundw
          case rel => exact ⟨k + 1, by simp, by omega, HR.out.alloc _, HA2.out⟩
          case measure => simp [intOf]; omega
    · have hk' : k = n := by omega
      have HN := Lib.hid (HYES.out fun j hj => HA.out j (by omega))
      have Hk := Lib.hid hk'
      clear hk'
      go_wp2_with fail
      go_ret
      refine ⟨?_, HR.out⟩
      rw [HN.out]
      simp
      omega
/-- A row of pairs of the call's own comes back, and nothing that was there has turned. -/
def NewPrs (ty : TypeId) (l : List Pr) (w : World) (e : Ending) (w' : World) : Prop := ∃ v, e = .returned v ∧ RowG w' (Gr No w w') ty 2 v l.length (prsC l) ∧ Fr No w w'
theorem rowPrR : RowT Try.prog 30 57 (.agg #[.string ⟨#[]⟩, .string ⟨#[]⟩]) 2 32 := ⟨Try.underlying30, by kernel_rfl, rfl, by decide⟩
set_option maxRecDepth 20000 in
set_option maxHeartbeats 1600000 in
theorem ref12_c (a : Option Addr) (n cap : Nat) (l : List Pr) (S : Nat → Prop) (w : World) (hn : l.length = n) (hm : n ≤ 1000000) (hi : Prs w S a l) :
    Calls Try.prog 13 #[.slice a n cap] w (NewPrs 57 l w) := by
  have HFIN : Hid (∀ v w', RowG w' (Gr No w w') 57 2 v n (prsC (l.take n)) → Fr No w w' → NewPrs 57 l w (.returned v) w') := Lib.hid fun v w' h1 h2 => by
    rw [List.take_of_length_le (by omega)] at h1
    exact ⟨v, rfl, by rw [hn]; exact h1, h2⟩
  have HL := Lib.hid hn
  have HI := Lib.hid hi
  clear hi hn
  go_enter Try.func13, Try.ntmps13
  go_wp2_with fail
  go_loopw [3, 8] (fun vo i wr => ∃ k : Nat, i = .int .i64 k ∧ k ≤ n ∧ RowG wr (Gr No w wr) 57 2 vo k (prsC (l.take k)) ∧ Fr No w wr) (fun _ i _ => n - (intOf i).toNat)
  case atStart => exact ⟨0, rfl, Nat.zero_le _, RowG.nil _ _ _ _, Fr.refl _ _⟩
  case round =>
    obtain ⟨k, rfl, hk, hrow, hfr⟩ := hrel
    obtain ⟨va, vc, rfl, _, _, _, _⟩ := hrow.form
    have HR := Lib.hid hrow
    have HF := Lib.hid hfr
    clear hrow hfr
    by_cases hlt : k < n
    · have hkl : k < l.length := by rw [HL.out]; exact hlt
      obtain ⟨b, o, _, rfl, hx⟩ := HI.out (by omega)
      have hx := (hx k hkl).keep HF.out (fun h => h)
      have HT := Lib.hid (take_pr l k hkl)
      have HTL : Hid ((l.take k).length = k) := Lib.hid (by rw [List.length_take]; omega)
      generalize l.getD k pr0 = x at hx HT
      obtain ⟨c0, c1⟩ := hx
      have hf1 : Fr No wr (wr.alloc (.cells #[.string x.key, .string x.val] 39)) := (Fr.refl _ _).alloc _
      obtain ⟨v', w', hrun, hrow', hfr'⟩ := push_pr rowPrR (by decide) w (wr.alloc (.cells #[.string x.key, .string x.val] 39)) _ k (l.take k) x HTL.out (HR.out.grow hf1) (HF.out.trans hf1) (by omega)
      have hsz : (wr.alloc (.cells #[.string x.key, .string x.val] 39)).heap.size = wr.heap.size + 1 := by simp [World.alloc, -World.alloc_eq]
      rw [hsz] at hrun
      have HRUN := Lib.hid hrun
      have HR2 := Lib.hid hrow'
      have HF2 := Lib.hid hfr'
      clear hrun hrow' hfr' hf1
      go_wp2_with (at_builtin; refine wpList_append_run rfl _ _ 30 rfl rfl rfl HRUN.out ?_)
      go_roundw
      case rel => exact ⟨k + 1, by simp, by omega, by rw [HT.out]; exact HR2.out, HF2.out⟩
      case measure => simp [intOf]; omega
    · have hk' : k = n := by omega
      have HE : Hid (NewPrs 57 l w (.returned (.slice va k vc)) wr) := Lib.hid (by
        refine HFIN.out _ _ ?_ HF.out
        rw [← hk']
        exact HR.out)
      clear hk'
      go_wp2_with fail
      go_ret
      exact HE.out
end Go.Proofs.Ytiacdakaolghmaa
