/-
  Layer 9: what a log's calls mean for a device that has power (mathematics).
-/
import Derived.Test.YtcekgalppbfnhaaDoorRlO
namespace Go.Proofs.YtcekgalppbfnhaaDoor
set_option linter.unusedVariables false
open Go.RowKit

/-- A device that has power, and is not armed. -/
structure Live (m : Dev) : Prop where
  wf : WF m
  dn : m.down = false
  ar : m.arm = none
theorem Live.new {z s o : Int} (h : rightG z s o = true) : Live (newM z s o) := ⟨wf_new h, rfl, rfl⟩
theorem Live.cmd {m : Dev} (h : Live m) : cmdM m = true := by unfold cmdM; rw [h.ar]
theorem Live.cmdR {m : Dev} (h : Live m) (e : Int) : cmdR m e = e := by
  unfold Go.Proofs.YtcekgalppbfnhaaDoor.cmdR
  rw [h.cmd]
  by_cases he : e = 0
  · rw [if_pos he, he]; rfl
  · rw [if_neg he]
theorem pow_live {m : Dev} (h : m.arm = none) : powM m = { m with done := m.done + 1 } := by
  unfold powM
  rw [h]
theorem zone_set (m : Dev) (z y : Int) (x : Zn) (hz : hasZ m z = true) (hy : 0 ≤ y) : zoneM (setZ m z x) y = if y = z then x else zoneM m y := by
  obtain ⟨h0, h1⟩ := hasZ_iff.1 hz
  unfold zoneM setZ
  simp only
  by_cases he : y = z
  · rw [if_pos he, he, List.getD_eq_getElem?_getD, List.getElem?_set_self h1]
    rfl
  · rw [if_neg he, List.getD_eq_getElem?_getD, List.getElem?_set_ne (by omega), ← List.getD_eq_getElem?_getD]
/-- An append: refused, or laid. -/
theorem Live.app {m : Dev} (h : Live m) (z : Int) (b : List UInt8) :
    (appErr m z b ≠ 0 ∧ appM m z b = m) ∨
    (appErr m z b = 0 ∧ hasZ m z = true ∧ (zoneM m z).b.length + b.length ≤ m.size ∧ Live (appM m z b) ∧ (appM m z b).size = m.size ∧ (appM m z b).zs.length = m.zs.length ∧ (appM m z b).opn = m.opn ∧ (appM m z b).done = m.done + 1 ∧
      ∀ y, 0 ≤ y → zoneM (appM m z b) y = if y = z then appZ m z b else zoneM m y) := by
  by_cases he : appErr m z b = 0
  · right
    obtain ⟨h1, h2, h3, h4, h5⟩ := appErr_ok he
    have e : appM m z b = { setZ m z (appZ m z b) with done := m.done + 1 } := by
      unfold appM
      rw [if_pos he, pow_live (by exact h.ar)]
      rfl
    have hw := wf_app h.wf z b
    refine ⟨he, h2, h5, ⟨hw, ?_, ?_⟩, ?_, ?_, ?_, ?_, fun y hy => ?_⟩
    · rw [e]; exact h.dn
    · rw [e]; exact h.ar
    · rw [e]; rfl
    · rw [e]; show (m.zs.set _ _).length = _; rw [List.length_set]
    · rw [e]; rfl
    · rw [e]
    · rw [e]
      exact zone_set m z y _ h2 hy
  · left
    refine ⟨he, ?_⟩
    unfold appM
    rw [if_neg he]
theorem ptr_has {m : Dev} {z : Int} (h : hasZ m z = true) : ptrM m z = ((zoneM m z).b.length : Int) := by unfold ptrM; rw [if_pos h]
theorem rdErr_live {m : Dev} (h : Live m) {z a n : Int} (hz : hasZ m z = true) : rdErr m z a n = 0 ↔ 0 ≤ a ∧ 0 ≤ n ∧ a + n ≤ ((zoneM m z).b.length : Int) := by
  unfold rdErr
  rw [h.dn, hz]
  simp only [Bool.false_eq_true, if_false, Bool.not_true]
  split
  · rename_i hc
    simp only [Bool.or_eq_true, decide_eq_true_eq] at hc
    constructor
    · intro h; omega
    · intro h; omega
  · rename_i hc
    simp only [Bool.or_eq_true, decide_eq_true_eq, not_or] at hc
    constructor
    · intro _; omega
    · intro _; rfl
theorem rdErr_out {m : Dev} {z a n : Int} (hz : hasZ m z = false) : rdErr m z a n ≠ 0 := by
  unfold rdErr
  split
  · omega
  · rw [hz]; simp
/-! ### ReadAt. -/
theorem scan_one (l : List UInt8) (h : l.length ≤ 1000000) : scanL (frameL l) = [l] := scanL_eq (by
    rw [frameL_length]
    have := sizeL_le (n := l.length) (by omega)
    omega) ⟨[], by
  show frameL l = (frameL l ++ []) ++ []
  rw [List.append_nil, List.append_nil], headF_short (by decide)⟩
theorem ra_no {m : Dev} {z t s : Int} (h : (raR m z t s).2 ≠ 0) : (raR m z t s).1 = [] := by
  unfold raR at h ⊢
  split
  · rename_i h1
    rw [if_pos h1] at h
    split
    · rename_i h2
      rw [if_pos h2] at h
      exact absurd rfl h
    · rfl
  · rfl
theorem ra_frame {m : Dev} {z t s : Int} {x : List UInt8} (h : rdErr m z t s = 0) (hb : rdB m z t s = frameL x) (hx : x.length ≤ 1000000) : raR m z t s = (x, 0) := by
  have h1 : (framesL [x]).length = (frameL x).length := by
    show (frameL x ++ []).length = _
    rw [List.append_nil]
  unfold raR
  rw [if_pos h, hb, scan_one x hx, if_pos ⟨rfl, h1⟩]
  rfl
theorem ra_yes {m : Dev} (hw : WF m) {z t s : Int} (h : (raR m z t s).2 = 0) : rdErr m z t s = 0 ∧ ∃ x, rdB m z t s = frameL x ∧ (raR m z t s).1 = x := by
  unfold raR at h ⊢
  by_cases h1 : rdErr m z t s = 0
  · rw [if_pos h1] at h ⊢
    by_cases h2 : (scanL (rdB m z t s)).length = 1 ∧ (framesL (scanL (rdB m z t s))).length = (rdB m z t s).length
    · rw [if_pos h2]
      obtain ⟨x, hx⟩ : ∃ x, scanL (rdB m z t s) = [x] := List.length_eq_one_iff.1 h2.1
      refine ⟨h1, x, ?_, ?_⟩
      · have h3 := (scanL_is (rdB m z t s)).take
        rw [h2.2, List.take_of_length_le (Nat.le_refl _), hx] at h3
        rw [h3]
        exact List.append_nil _
      · rw [hx]; rfl
    · rw [if_neg h2] at h
      cases h
  · rw [if_neg h1] at h
    exact absurd h h1
/-- The number of bytes that is read for a record of n. -/
structure SzOf (n s : Int) : Prop where
  neg : n < 0 → s = 0
  mid : 0 ≤ n → n ≤ 1000000 → s = (sizeL n.toNat : Int)
  big : 1000000 < n → s < 0 ∨ 1000000 < s
theorem szOf_ex (n : Int) (wn : (Lit.int .i64 n).wf = true) : ∃ s, SzOf n s ∧ (Lit.int .i64 s).wf = true ∧ ∀ w, Calls Tryd.prog 14 #[.int .i64 n] w fun e w' => e = .returned (.int .i64 s) ∧ w = w' := by
  by_cases h0 : n < 0
  · exact ⟨0, ⟨fun _ => rfl, fun h => by omega, fun h => by omega⟩, by decide, fun w => fsize_neg n w h0⟩
  · by_cases h1 : n ≤ 1000000
    · obtain ⟨k, rfl⟩ : ∃ k : Nat, n = (k : Int) := ⟨n.toNat, by omega⟩
      have := sizeL_le (n := k) (by omega)
      exact ⟨(sizeL k : Int), ⟨fun h => by omega, fun _ _ => rfl, fun h => by omega⟩, wf_small (by omega) (by omega), fun w => fsize_c k w (by omega)⟩
    · obtain ⟨r, h2, h3, h4⟩ := size_big n (by omega) wn ⟨#[], default, default, default, default⟩
      exact ⟨r, ⟨fun h => by omega, fun _ h => by omega, fun _ => h3⟩, h2, h4⟩
/-! ### ReclogPlaces' device. -/
structure Pl (m : Dev) (al : List UInt8) : Prop where
  live : Live m
  n3 : m.zs.length = 3
  sz : m.size = 400
  z0 : (zoneM m 0).b = []
  z1 : (zoneM m 1).b = al
  z2 : (zoneM m 2).b = []
theorem Pl.has {m : Dev} {al : List UInt8} (h : Pl m al) {z : Int} (h0 : 0 ≤ z) (h1 : z < 3) : hasZ m z = true := by
  unfold hasZ
  rw [h.n3]
  simp
  omega
theorem Pl.new : Pl (newM 3 400 3) [] := ⟨Live.new (by decide), rfl, rfl, rfl, rfl, rfl⟩
theorem Pl.le {m : Dev} {al : List UInt8} (h : Pl m al) : al.length ≤ 400 := by
  have := (zoneM_ok h.live.wf 1).l
  rw [h.z1, h.sz] at this
  exact this
theorem Pl.app {m : Dev} {al : List UInt8} (h : Pl m al) (l : List UInt8) (hl : l.length ≤ 300) :
    ((appT m [1] l).2.2 ≠ 0 ∧ appDv m [1] l = m) ∨
    (appT m [1] l = (1, (al.length : Int), 0) ∧ Pl (appDv m [1] l) (al ++ frameL l) ∧ (appDv m [1] l).done = m.done + 1 ∧ raR (appDv m [1] l) 1 (al.length : Int) (sizeL l.length : Int) = (l, 0)) := by
  unfold appT appDv
  cases hn : appNo m [1] l with
  | some e =>
    left
    refine ⟨?_, rfl⟩
    unfold appNo at hn
    simp only
    split at hn
    · cases hn; omega
    · split at hn
      · cases hn; omega
      · split at hn
        · cases hn; omega
        · cases hn
  | none =>
    simp only
    rw [show lastZ [1] = 1 from rfl, h.live.cmdR]
    rcases h.live.app 1 (frameL l) with ⟨h1, h2⟩ | ⟨h1, h2, h3, h4, h5, h6, h7, h8, h9⟩
    · left
      rw [if_neg h1, h2]
      exact ⟨h1, rfl⟩
    · right
      rw [if_pos h1, ptr_has h2, h.z1]
      have hz1 : (zoneM (appM m 1 (frameL l)) 1).b = al ++ frameL l := by
        rw [h9 1 (by omega), if_pos rfl]
        show (zoneM m 1).b ++ _ = _
        rw [h.z1]
      have hp : Pl (appM m 1 (frameL l)) (al ++ frameL l) := ⟨h4, h6.trans h.n3, h5.trans h.sz, by rw [h9 0 (by omega), if_neg (by omega)]; exact h.z0, hz1, by rw [h9 2 (by omega), if_neg (by omega)]; exact h.z2⟩
      have hr : rdErr (appM m 1 (frameL l)) 1 (al.length : Int) (sizeL l.length : Int) = 0 := by
        rw [rdErr_live h4 (hp.has (by omega) (by omega)), hz1, List.length_append, frameL_length]
        omega
      refine ⟨rfl, hp, h8, ra_frame hr ?_ (by omega)⟩
      unfold rdB
      rw [if_pos hr, hz1, Int.toNat_natCast, Int.toNat_natCast, List.drop_left' rfl, ← frameL_length]
      exact List.take_of_length_le (Nat.le_refl _)
theorem Pl.yes {m : Dev} {al : List UInt8} (h : Pl m al) {z t n s : Int} (hs : SzOf n s) (h0 : (raR m z t s).2 = 0) : z = 1 ∧ 0 ≤ t ∧ 0 ≤ n ∧ n ≤ 400 ∧ t ≤ (al.length : Int) ∧ s ≤ (al.length : Int) - t := by
  obtain ⟨h1, x, h2, _⟩ := ra_yes h.live.wf h0
  have hle := h.le
  have hfx := frameL_length x
  have hfp := sizeL_pos x.length
  cases hh : hasZ m z with
  | false => exact absurd h1 (rdErr_out hh)
  | true =>
    obtain ⟨g0, g1⟩ := hasZ_iff.1 hh
    obtain ⟨g2, g3, g4⟩ := (rdErr_live h.live hh).1 h1
    have hlen : (rdB m z t s).length = s.toNat := by
      unfold rdB
      rw [if_pos h1, List.length_take, List.length_drop]
      omega
    rw [h2] at hlen
    have hz : z = 1 := by
      rw [h.n3] at g1
      rcases (show z = 0 ∨ z = 1 ∨ z = 2 by omega) with rfl | rfl | rfl
      · rw [h.z0] at g4
        simp at g4
        omega
      · rfl
      · rw [h.z2] at g4
        simp at g4
        omega
    subst hz
    rw [h.z1] at g4
    have hn0 : 0 ≤ n := by
      rcases Int.lt_or_le n 0 with hn | hn
      · have := hs.neg hn
        omega
      · exact hn
    have hn1 : n ≤ 400 := by
      rcases Int.lt_or_le 1000000 n with hn | hn
      · rcases hs.big hn with h | h <;> omega
      · have h3 := hs.mid hn0 hn
        have h4 := sizeL_pos n.toNat
        omega
    exact ⟨rfl, g2, hn0, hn1, by omega, by omega⟩
/-- At a place within what was laid. -/
theorem Pl.at_ {m : Dev} {al : List UInt8} (h : Pl m al) {t n : Nat} (hn : n ≤ 400) (ht : t + sizeL n ≤ al.length) :
    raR m 1 (t : Int) (sizeL n : Int) = (if (scanL ((al.drop t).take (sizeL n))).length = 1 ∧ (framesL (scanL ((al.drop t).take (sizeL n)))).length = sizeL n then ((scanL ((al.drop t).take (sizeL n))).getD 0 [], 0) else ([], 22)) ∧
      ∀ x, scanL ((al.drop t).take (sizeL n)) = [x] → (framesL [x]).length = sizeL n → x.length = n := by
  have hr : rdErr m 1 (t : Int) (sizeL n : Int) = 0 := by
    rw [rdErr_live h.live (h.has (by omega) (by omega)), h.z1]
    omega
  have hb : rdB m 1 (t : Int) (sizeL n : Int) = (al.drop t).take (sizeL n) := by
    unfold rdB
    rw [if_pos hr, h.z1]
    rfl
  have hlen : ((al.drop t).take (sizeL n)).length = sizeL n := by
    rw [List.length_take, List.length_drop]
    omega
  constructor
  · unfold raR
    rw [if_pos hr, hb, hlen]
  · intro x hx hl
    have e : (framesL [x]).length = sizeL x.length := by
      show (frameL x ++ []).length = _
      rw [List.append_nil, frameL_length]
    rw [e] at hl
    exact sizeL_inj hl
end Go.Proofs.YtcekgalppbfnhaaDoor
