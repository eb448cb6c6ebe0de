/-
  The walk of WireSizes.
-/
import Derived.Test.YtpjfdhgkclnagaaWireF
namespace Go.Proofs.Ytpjfdhgkclnagaa
set_option linter.unusedVariables false
open Go.RowKit

theorem long_none (n : Nat) (hn : n < 9223372036854775808) (i : Nat) (c : UInt8) (hi : (enc n).length = i + 1) (hc : ((enc n).getD i 0).toNat < 128 → c.toNat = ((enc n).getD i 0).toNat + 128) :
    ((enc n).getD i 0).toNat < 128 ∧ numS (((enc n).set i c) ++ [0], false) = (0, (((enc n).set i c) ++ [0], true)) := by
  obtain ⟨h, t, e1, e2, e3⟩ := enc_high 9 n (by simpa using hn)
  have hl : h.length = i := by rw [e1, List.length_append] at hi; simpa using hi
  have hg : (enc n).getD i 0 = t := by rw [e1, ← hl]; simp [List.getD]
  rw [hg] at hc ⊢
  refine ⟨e3, ?_⟩
  have hc := hc e3
  have hs : (enc n).set i c = h ++ [c] := by rw [e1, ← hl]; simp
  have hd : dec 9 0 ((enc n).set i c ++ [0]) = none := by
    rw [hs]
    refine dec_long 9 0 _ (fun x hx => ?_) (by simp)
    rcases List.mem_append.1 hx with hx | hx
    · exact e2 x hx
    · have : x = c := by simpa using hx
      rw [this, hc]
      omega
  unfold numS
  simp [hd]

set_option maxRecDepth 20000 in
set_option maxHeartbeats 800000 in
theorem sizes_neg (n : Int) (w : World) (h : n < 0) :
    Calls Try.prog 5 #[.int .i64 n] w fun e w' => e = .returned (.bool true) ∧ Fr No w w' := by
  go_enter Try.func5, Try.ntmps5
  go_wp2_with fail
  refine (size_neg n w h).mono ?_
  rintro e w' ⟨rfl, rfl⟩
  go_wp2_with fail
  refine (awake_c w).mono ?_
  rintro e w' ⟨rfl, f⟩
  have F := Lib.hid f
  clear f
  go_wp2_with fail
  go_ret
  exact ⟨rfl, F.out⟩
set_option maxRecDepth 20000 in
set_option maxHeartbeats 800000 in
theorem sizes_pos (n : Nat) (w : World) (h : n < 9223372036854775808) :
    Calls Try.prog 5 #[.int .i64 (n : Int)] w fun e w' => e = .returned (.bool true) ∧ Fr No w w' := by
  obtain ⟨i, hi⟩ : ∃ i, (enc n).length = i + 1 := ⟨(enc n).length - 1, by have := enc_pos n; omega⟩
  have h9 := enc_len9 h
  have HI := Lib.hid hi
  have hi9 : i ≤ 8 := by omega
  have HS := Lib.hid fun (w : World) => size_c n w h
  rw [hi] at HS
  clear hi h9
  go_enter Try.func5, Try.ntmps5
  go_wp2_with fail
  refine (refNumber_c n w h).mono ?_
  rintro e w1 ⟨v, rfl, hrow, f1⟩
  obtain ⟨g, cap, rfl, hg, hc1, hc2, c0, c1, hset⟩ := hrow.at_ (i := i) (by have := HI.out; omega)
  have hin : Rd w1 (some ⟨g, 0, none⟩) (enc n) := by
    obtain ⟨a, cap', hv, _, _, hin⟩ := hrow.form
    cases hv
    exact hin.rd
  have C1 := newr_c (some ⟨g, 0, none⟩) (enc n).length cap (enc n) w1 rfl (by have := HI.out; omega) hin
  have F1 := Lib.hid f1
  have HR := Lib.hid hrow
  have HG := Lib.hid hg
  rw [HI.out] at C1 hc1 ⊢
  have C1 := Lib.hid C1
  unfold maxLen at hc2
  clear f1 hrow hg c0 c1 hset hin
  go_wp2_with fail
  refine (show Calls _ _ _ _ _ from C1.out).mono ?_
  rintro e w2 ⟨R, S, rfl, hr, f2, hR, hS⟩
  have H2 := Lib.hid hr
  have F2 := Lib.hid (F1.out.then_ f2 fun _ _ h => h)
  have F2s := Lib.hid f2.size
  have HR2 := Lib.hid (HR.out.keep f2 fun _ _ h => h)
  have HRR := Lib.hid hR
  clear hr f2 hR hS C1 HR
  go_wp2_with fail
  refine (HS.out w2).mono ?_
  rintro e w' ⟨rfl, rfl⟩
  go_wp2_with fail
  have C2 := rnum_c w2 R S _ H2.out
  have e2 := numS_enc n [] h
  rw [List.append_nil] at e2
  rw [e2] at C2
  clear e2
  refine C2.mono ?_
  rintro e w3 ⟨rfl, hr, f3⟩
  have C3 := rdone_c w3 R S _ hr
  rw [done0] at C3
  have hGR : ∀ k, Gr No w w1 k → ¬ One R k := fun k hk h => by
    have := HRR.out
    simp [Gr, No, One] at hk h
    omega
  have HR2sz : Hid (w1.heap.size ≤ w3.heap.size) := Lib.hid (Nat.le_trans F2s.out f3.size)
  have F3 := Lib.hid (F2.out.then_ f3 fun k hk h => by
    have := HRR.out
    have := F1.out.size
    have : k = R := h
    omega)
  have hrow3 := HR2.out.keep f3 hGR
  clear C2 hr f3 H2 HR2 F2 hGR
  go_wp2_with fail
  refine C3.mono ?_
  rintro e w' ⟨rfl, rfl⟩
  clear C3
  obtain ⟨g', cap', hv, _, _, _, c0, c1, hset⟩ := hrow3.at_ (i := i) (by have := HI.out; omega)
  have hgg : g' = g := by
    injection hv with hv1
    injection hv1 with hv1
    injection hv1 with hv1
    exact hv1.symm
  subst hgg
  obtain ⟨x, hx⟩ : ∃ x, ((enc n).getD i 0).toNat = x := ⟨_, rfl⟩
  rw [hx] at c0
  obtain ⟨hx128, hlong⟩ := long_none n h i (UInt8.ofNat (x + 128)) HI.out (fun h => by rw [hx] at h ⊢; exact toNat_ofNat (by omega))
  rw [hx] at hx128
  obtain ⟨hrow4, f4⟩ := hset (UInt8.ofNat (x + 128))
  rw [toNat_ofNat (by omega), show ((x + 128 : Nat) : Int) = (x : Int) + 128 by omega] at hrow4 f4
  have F4 := Lib.hid (F3.out.then_ f4 fun k hk h => Gr.old hk h)
  have HLong := Lib.hid hlong
  have hlen : ((enc n).set i (UInt8.ofNat (x + 128))).length = i + 1 := by rw [List.length_set]; exact HI.out
  obtain ⟨v5, w5, hrun, hrow5, f5⟩ := hrow4.push (fun k hk => by
    rw [size_set]
    have := F3.out.size
    have := F1.out.size
    have := HR2sz.out
    simp [Gr, No] at hk
    omega) 0 (by omega)
  rw [show (((0 : UInt8).toNat : Nat) : Int) = 0 from rfl, HI.out, size_set] at hrun
  obtain ⟨a5, cap5, rfl, hd1, hd2, hin5⟩ := hrow5.form
  have hlen5 : ((enc n).set i (UInt8.ofNat (x + 128)) ++ [0]).length = i + 2 := by rw [List.length_append, hlen]; rfl
  have C5 := newr_c a5 (i + 2) cap5 _ w5 hlen5 (by omega) hin5.rd
  rw [hlen5] at hrun hd1
  have HRUN := Lib.hid hrun
  have C5 := Lib.hid C5
  have F5 := Lib.hid (F4.out.then_ f5 fun k hk h => Gr.old hk h)
  clear hx hrow4 f4 hset hrow3 hv hlong F3 HG hrun hrow5 f5 hd1 hd2 hin5 hlen hlen5 F4
  go_wp2_with (at_builtin; refine wpList_append_run rfl _ _ 25 rfl rfl rfl HRUN.out ?_)
  refine (show Calls _ _ _ _ _ from C5.out).mono ?_
  rintro e w6 ⟨R2, S2, rfl, hr, f6, hR, hS⟩
  have F6 := Lib.hid (F5.out.then_ f6 fun _ _ h => h)
  have C6 := rnum_c w6 R2 S2 _ hr
  rw [HLong.out] at C6
  have C6 := Lib.hid C6
  have HR6 := Lib.hid hR
  have F5s := F5.out.size
  clear hr f6 hR hS C5 HRUN c0 c1
  go_wp2_with fail
  refine (show Calls _ _ _ _ _ from C6.out).mono ?_
  rintro e w7 ⟨rfl, hr, f7⟩
  have F7 := Lib.hid (F6.out.then_ f7 fun k hk h => by
    have := HR6.out
    have : k = R2 := h
    omega)
  have C7 := Lib.hid (rbad_c w7 R2 S2 _ hr)
  clear hr f7 C6
  go_wp2_with fail
  refine (show Calls _ _ _ _ _ from C7.out).mono ?_
  rintro e w' ⟨rfl, rfl⟩
  go_wp2_with fail
  refine (awake_c w7).mono ?_
  rintro e w8 ⟨rfl, f⟩
  have F := Lib.hid (F7.out.then_ f fun _ _ h => h)
  clear f
  go_wp2_with fail
  go_ret
  exact ⟨rfl, F.out⟩

theorem wireSizes_walk (w : World) (n : Int) (wn : (Lit.int .i64 n).wf = true) :
    Calls Try.prog 5 #[.int .i64 n] w fun e w' => e = .returned (.bool true) ∧ Below w.heap.size w w' := by
  have hn : n ≤ 9223372036854775807 := by
    simp [Lit.wf, IntKind.min, IntKind.max, IntKind.signed, IntKind.bits] at wn
    omega
  by_cases h : n < 0
  · exact (sizes_neg n w h).mono fun e w' ⟨he, hf⟩ => ⟨he, hf.below (Nat.le_refl _) fun k h => h.elim⟩
  · obtain ⟨m, rfl⟩ := Int.eq_ofNat_of_zero_le (show 0 ≤ n by omega)
    exact (sizes_pos m w (by omega)).mono fun e w' ⟨he, hf⟩ => ⟨he, hf.below (Nat.le_refl _) fun k h => h.elim⟩
end Go.Proofs.Ytpjfdhgkclnagaa
