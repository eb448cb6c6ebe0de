/-
  A log over the zones 0, 1, .. of a device that has power, grown behind a flush, and a crash behind it (mathematics).
-/
import Derived.Test.YtcekgalppbfnhaaDoorRlP
namespace Go.Proofs.YtcekgalppbfnhaaDoor
set_option linter.unusedVariables false
open Go.RowKit

theorem cut_ex : ∀ (xs : List (List UInt8)) (c : Nat), (∀ x ∈ xs, x.length < 9223372036854775808) → ∃ k, k ≤ xs.length ∧ Scn ((framesL xs).take c) (xs.take k) ∧ ∀ p, p ≤ xs.length → (framesL (xs.take p)).length ≤ c → p ≤ k
  | [], c, _ => ⟨0, Nat.le_refl _, ⟨[], by simp [framesL], headF_short (by decide)⟩, fun p hp _ => hp⟩
  | x :: xs, c, h => by
    have hx := h x (List.mem_cons_self ..)
    by_cases hc : c < (frameL x).length
    · refine ⟨0, Nat.zero_le _, ⟨(frameL x).take c, ?_, headF_cut x hx c hc⟩, fun p hp hle => ?_⟩
      · show (frameL x ++ framesL xs).take c = [] ++ _
        rw [List.take_append_of_le_length (by omega), List.nil_append]
      · cases p with
        | zero => exact Nat.le_refl _
        | succ p =>
          have e : (framesL ((x :: xs).take (p + 1))).length = (frameL x).length + (framesL (xs.take p)).length := by
            show (frameL x ++ framesL (xs.take p)).length = _
            rw [List.length_append]
          omega
    · obtain ⟨k, h1, ⟨r, h2, h3⟩, h4⟩ := cut_ex xs (c - (frameL x).length) fun y hy => h y (List.mem_cons_of_mem _ hy)
      refine ⟨k + 1, by simp; omega, ⟨r, ?_, h3⟩, fun p hp hle => ?_⟩
      · show (frameL x ++ framesL xs).take c = (frameL x ++ framesL (xs.take k)) ++ r
        rw [List.append_assoc, ← h2, List.take_append, List.take_of_length_le (by omega)]
      · cases p with
        | zero => exact Nat.zero_le _
        | succ p =>
          have e : (framesL ((x :: xs).take (p + 1))).length = (frameL x).length + (framesL (xs.take p)).length := by
            show (frameL x ++ framesL (xs.take p)).length = _
            rw [List.length_append]
          have := h4 p (by simp at hp; omega) (by omega)
          omega
theorem scan_all (zs : List (List UInt8)) (h : (framesL zs).length ≤ 1000000) : scanL (framesL zs) = zs := scanL_eq (by omega) ⟨[], (List.append_nil _).symm, headF_short (by decide)⟩
/-- The zones 0, 1, .. ; all records of the first n zones. -/
def zsL (n : Nat) : List Int := (List.range n).map fun k : Nat => ((k : Nat) : Int)
def flatR (R : Nat → List (List UInt8)) : Nat → List (List UInt8)
  | 0 => []
  | n + 1 => flatR R n ++ R n
theorem zsL_length (n : Nat) : (zsL n).length = n := by unfold zsL; simp
theorem zsL_succ (n : Nat) : zsL (n + 1) = zsL n ++ [(n : Int)] := by unfold zsL; rw [List.range_succ, List.map_append]; rfl
theorem zsL_mem {n : Nat} {z : Int} : z ∈ zsL n ↔ ∃ k : Nat, k < n ∧ z = (k : Int) := by
  unfold zsL
  rw [List.mem_map]
  constructor
  · rintro ⟨k, hk, rfl⟩
    exact ⟨k, List.mem_range.1 hk, rfl⟩
  · rintro ⟨k, hk, rfl⟩
    exact ⟨k, List.mem_range.2 hk, rfl⟩
theorem zsL_last (n : Nat) : lastZ (zsL (n + 1)) = (n : Int) := by
  unfold lastZ
  rw [zsL_length, zsL_succ]
  simp [zsL]
theorem flatR_eq {R R' : Nat → List (List UInt8)} : ∀ (n : Nat), (∀ k, k < n → R k = R' k) → flatR R n = flatR R' n
  | 0, _ => rfl
  | n + 1, h => by
    show flatR R n ++ R n = flatR R' n ++ R' n
    rw [flatR_eq n fun k hk => h k (by omega), h n (by omega)]
/-- A log's records, zone by zone: whole ones ahead. -/
theorem repL_append {m : Dev} (R : Nat → List (List UInt8)) (ys : List Int) : ∀ (n : Nat), (∀ k, k < n → (zoneM m (k : Int)).b = framesL (R k) ∧ (framesL (R k)).length ≤ 1000000) →
    repL m (zsL n ++ ys) = (flatR R n ++ (repL m ys).1, (repL m ys).2) := by
  intro n
  induction n generalizing ys with
  | zero => intro _; rfl
  | succ n ih =>
    intro h
    obtain ⟨h1, h2⟩ := h n (by omega)
    rw [zsL_succ, List.append_assoc, ih ([(n : Int)] ++ ys) fun k hk => h k (by omega)]
    rw [List.singleton_append, repL_cons, h1, scan_all _ h2, if_pos rfl]
    show (flatR R n ++ (R n ++ _), _) = ((flatR R n ++ R n) ++ _, _)
    rw [List.append_assoc]
/-- The state of ReclogChains. -/
structure ChI (m : Dev) (Z S next p : Nat) (R : Nat → List (List UInt8)) (laid : List (List UInt8)) (safe : Nat) : Prop where
  live : Live m
  nz : m.zs.length = Z
  sz : m.size = S
  nx : next ≤ Z
  zb : ∀ k, k < next → (zoneM m (k : Int)).b = framesL (R k)
  ze : ∀ k, next ≤ k → k < Z → (zoneM m (k : Int)).b = [] ∧ (zoneM m (k : Int)).s = 0
  rz : ∀ k, next ≤ k → R k = []
  rs : ∀ k, ∀ x ∈ R k, x.length ≤ 300
  zf : ∀ k, k + 1 < next → (zoneM m (k : Int)).f = (zoneM m (k : Int)).b.length
  zp : p ≤ (R (next - 1)).length ∧ (0 < next → (framesL ((R (next - 1)).take p)).length ≤ (zoneM m ((next - 1 : Nat) : Int)).f)
  ld : laid = flatR R next
  sf : safe = (flatR R (next - 1)).length + p
theorem ChI.has {m : Dev} {Z S next p safe : Nat} {R : Nat → List (List UInt8)} {laid : List (List UInt8)} (h : ChI m Z S next p R laid safe) {k : Nat} (hk : k < Z) : hasZ m (k : Int) = true := by
  unfold hasZ
  rw [h.nz]
  simp
  omega
theorem ChI.small {m : Dev} {Z S next p safe : Nat} {R : Nat → List (List UInt8)} {laid : List (List UInt8)} (h : ChI m Z S next p R laid safe) {k : Nat} (hk : k < next) : (framesL (R k)).length ≤ 65536 := by
  rw [← h.zb k hk]
  exact Nat.le_trans (zoneM_ok h.live.wf _).l h.live.wf.s64
theorem ChI.new {z s o : Int} (hg : rightG z s o = true) : ChI (newM z s o) z.toNat s.toNat 0 0 (fun _ => []) [] 0 := by
  refine ⟨Live.new hg, by simp [newM], rfl, Nat.zero_le _, fun k hk => absurd hk (by omega), fun k _ hk => ?_, fun _ _ => rfl, fun _ x hx => (by simp at hx), fun k hk => absurd hk (by omega), ⟨Nat.zero_le _, fun h => absurd h (by omega)⟩, rfl, rfl⟩
  have e : zoneM (newM z s o) (k : Int) = zn0 := by
    unfold zoneM newM
    simp [List.getD, hk]
  rw [e]
  exact ⟨rfl, rfl⟩
theorem flu_live {m : Dev} (h : Live m) : fluM m = { allFlushed m with done := m.done + 1 } ∧ cmdR m (fluErr m) = 0 := by
  have e : fluErr m = 0 := by unfold fluErr; rw [h.dn]; rfl
  constructor
  · unfold fluM
    rw [if_pos e, if_pos h.cmd, pow_live (by exact h.ar)]
    rfl
  · rw [h.cmdR, e]
theorem flu_zone {m : Dev} (h : Live m) (z : Int) : zoneM (fluM m) z = { zoneM m z with f := (zoneM m z).b.length } := by
  rw [(flu_live h).1]
  unfold zoneM allFlushed
  simp only
  rw [List.getD_eq_getElem?_getD, List.getElem?_map, List.getD_eq_getElem?_getD]
  cases m.zs[z.toNat]? <;> rfl
/-- Behind a flush. -/
theorem ChI.flush {m : Dev} {Z S next p safe : Nat} {R : Nat → List (List UInt8)} {laid : List (List UInt8)} (h : ChI m Z S next p R laid safe) : ChI (fluM m) Z S next (R (next - 1)).length R laid laid.length ∧ (fluM m).done = m.done + 1 ∧ cmdR m (fluErr m) = 0 := by
  have e := (flu_live h.live).1
  refine ⟨⟨⟨wf_flu h.live.wf, by rw [e]; exact h.live.dn, by rw [e]; exact h.live.ar⟩, ?_, ?_, h.nx, fun k hk => ?_, fun k hk hk2 => ?_, h.rz, h.rs, fun k hk => ?_, ⟨Nat.le_refl _, fun hn => ?_⟩, h.ld, ?_⟩, by rw [e], (flu_live h.live).2⟩
  · rw [e]; show (m.zs.map _).length = Z; rw [List.length_map]; exact h.nz
  · rw [e]; exact h.sz
  · rw [flu_zone h.live]; exact h.zb k hk
  · rw [flu_zone h.live]; exact h.ze k hk hk2
  · rw [flu_zone h.live]
  · rw [flu_zone h.live, List.take_of_length_le (Nat.le_refl _)]
    show _ ≤ (zoneM m _).b.length
    rw [h.zb _ (by omega)]
    exact Nat.le_refl _
  · rw [h.ld]
    cases next with
    | zero => rw [h.rz _ (Nat.zero_le _)]; rfl
    | succ n =>
      show (flatR R n ++ R n).length = _
      rw [List.length_append]
      rfl
/-- A zone more, behind a flush. -/
theorem ChI.grow {m : Dev} {Z S next safe : Nat} {R : Nat → List (List UInt8)} {laid : List (List UInt8)} (h : ChI m Z S next (R (next - 1)).length R laid safe) :
    (okGrow m (zsL next) (next : Int) = decide (next < Z)) ∧ (next < Z → ChI m Z S (next + 1) 0 R laid safe) := by
  have hno : decide ((next : Int) ∈ zsL next) = false := by
    rw [decide_eq_false_iff_not, zsL_mem]
    rintro ⟨k, hk, e⟩
    omega
  constructor
  · unfold okGrow
    rw [hno]
    by_cases hz : next < Z
    · have h1 := (h.ze next (Nat.le_refl _) hz).2
      unfold stateM
      rw [if_pos (h.has hz), h1, decide_eq_true hz]
      rfl
    · have h1 : hasZ m (next : Int) = false := by
        unfold hasZ
        rw [h.nz]
        simp
        omega
      unfold stateM
      rw [h1, decide_eq_false hz]
      rfl
  · intro hz
    have hfull : ∀ k, k < next → (zoneM m (k : Int)).f = (zoneM m (k : Int)).b.length := fun k hk => by
      rcases Nat.lt_or_ge (k + 1) next with h1 | h1
      · exact h.zf k h1
      · have h2 := h.zp.2 (by omega)
        rw [List.take_of_length_le (Nat.le_refl _)] at h2
        have h3 := (zoneM_ok h.live.wf (k : Int)).f
        obtain rfl : k = next - 1 := by omega
        rw [h.zb _ hk] at h3 ⊢
        omega
    refine ⟨h.live, h.nz, h.sz, hz, fun k hk => ?_, fun k hk hk2 => h.ze k (by omega) hk2, fun k hk => h.rz k (by omega), h.rs, fun k hk => hfull k (by omega), ⟨Nat.zero_le _, fun _ => ?_⟩, ?_, ?_⟩
    · rcases Nat.lt_or_ge k next with h1 | h1
      · exact h.zb k h1
      · obtain rfl : k = next := by omega
        rw [(h.ze _ (Nat.le_refl _) hz).1, h.rz _ (Nat.le_refl _)]
        rfl
    · exact Nat.zero_le _
    · rw [h.ld]
      show flatR R next = flatR R next ++ R next
      rw [h.rz next (Nat.le_refl _), List.append_nil]
    · rw [h.sf]
      show _ = (flatR R next).length + 0
      cases next with
      | zero => rw [h.rz _ (Nat.zero_le _)]; rfl
      | succ n =>
        show (flatR R n).length + (R n).length = (flatR R n ++ R n).length + 0
        rw [List.length_append]
        rfl
/-- What came of an append. -/
theorem ChI.app {m : Dev} {Z S next p safe : Nat} {R : Nat → List (List UInt8)} {laid : List (List UInt8)} (h : ChI m Z S next p R laid safe) (l : List UInt8) (hl : l.length ≤ 300) :
    (∃ e, appNo m (zsL next) l = some e ∧ appT m (zsL next) l = (0, 0, e) ∧ appDv m (zsL next) l = m) ∨
    (appNo m (zsL next) l = none ∧ appT m (zsL next) l = (0, 0, 72) ∧ appDv m (zsL next) l = m) ∨
    (∃ at_ : Nat, 0 < next ∧ at_ ≤ 65536 ∧ appNo m (zsL next) l = none ∧ appT m (zsL next) l = (((next - 1 : Nat) : Int), (at_ : Int), 0) ∧ (appDv m (zsL next) l).done = m.done + 1 ∧ ptrM (appDv m (zsL next) l) ((next - 1 : Nat) : Int) = ((at_ + sizeL l.length : Nat) : Int) ∧ at_ + sizeL l.length ≤ 65536 ∧
      raR (appDv m (zsL next) l) ((next - 1 : Nat) : Int) (at_ : Int) (sizeL l.length : Int) = (l, 0) ∧ ∃ R', ChI (appDv m (zsL next) l) Z S next p R' (laid ++ [l]) safe) := by
  cases hn : appNo m (zsL next) l with
  | some e => exact .inl ⟨e, rfl, by unfold appT; rw [hn], by unfold appDv; rw [hn]⟩
  | none =>
    right
    have e1 : appT m (zsL next) l = (if cmdR m (appErr m (lastZ (zsL next)) (frameL l)) = 0 then (lastZ (zsL next), ptrM m (lastZ (zsL next)), 0) else (0, 0, cmdR m (appErr m (lastZ (zsL next)) (frameL l)))) := by unfold appT; rw [hn]
    have e2 : appDv m (zsL next) l = appM m (lastZ (zsL next)) (frameL l) := by unfold appDv; rw [hn]
    rw [e1, e2, h.live.cmdR]
    have hn2 := hn
    unfold appNo at hn2
    split at hn2
    · cases hn2
    · rename_i c1
      split at hn2
      · cases hn2
      · rename_i c2
        split at hn2
        · cases hn2
        · rename_i c3
          obtain ⟨n, rfl⟩ : ∃ n, next = n + 1 := by
            cases next with
            | zero => exact absurd rfl c2
            | succ n => exact ⟨n, rfl⟩
          have hroom : roomL m (zsL (n + 1)) = roomM m (n : Int) := by unfold roomL; rw [if_neg c2, zsL_last]
          rw [hroom] at c3
          rw [zsL_last, show n + 1 - 1 = n from rfl]
          have hnx := h.nx
          have hh := h.has (k := n) (by omega)
          have hfl := frameL_length l
          have hsp := sizeL_pos l.length
          unfold roomM at c3
          rw [hh] at c3
          have hs2 : ((zoneM m (n : Int)).s == 2) = false := by
            cases hb : (zoneM m (n : Int)).s == 2 with
            | false => rfl
            | true =>
              rw [hb] at c3
              simp at c3
              omega
          rw [hs2] at c3
          simp only [Bool.not_true, Bool.or_self, Bool.false_eq_true, if_false] at c3
          rcases h.live.app (n : Int) (frameL l) with ⟨h1, h2⟩ | ⟨h1, h2, h3, h4, h5, h6, h7, h8, h9⟩
          · left
            refine ⟨rfl, ?_, h2⟩
            rw [if_neg h1]
            have h72 : appErr m (n : Int) (frameL l) = 72 := by
              unfold appErr at h1 ⊢
              rw [h.live.dn, hh, hs2] at h1 ⊢
              simp only [Bool.not_true, Bool.false_eq_true, if_false] at h1 ⊢
              split at h1
              · rename_i c4
                rw [if_pos c4]
              · rename_i c4
                rw [if_neg c4]
                split at h1
                · rename_i c5
                  rw [decide_eq_true_eq] at c5
                  omega
                · exact absurd rfl h1
            rw [h72]
          · right
            have hz : ∀ k : Nat, zoneM (appM m (n : Int) (frameL l)) (k : Int) = if k = n then appZ m (n : Int) (frameL l) else zoneM m (k : Int) := fun k => by
              rw [h9 (k : Int) (by omega)]
              by_cases hk : k = n
              · rw [if_pos (by omega), if_pos hk]
              · rw [if_neg (by omega), if_neg hk]
            have hzn : (zoneM (appM m (n : Int) (frameL l)) (n : Int)).b = framesL (R n) ++ frameL l := by
              rw [hz n, if_pos rfl]
              show (zoneM m (n : Int)).b ++ _ = _
              rw [h.zb n (by omega)]
            have hbl := h.zb n (by omega)
            have hle : (framesL (R n)).length + sizeL l.length ≤ 65536 := by
              have := h.live.wf.s64
              rw [hbl, hfl] at h3
              omega
            have hh2 : hasZ (appM m (n : Int) (frameL l)) (n : Int) = true := by
              unfold hasZ
              rw [h6, h.nz]
              simp
              omega
            have hr : rdErr (appM m (n : Int) (frameL l)) (n : Int) ((framesL (R n)).length : Int) (sizeL l.length : Int) = 0 := by
              rw [rdErr_live h4 hh2, hzn, List.length_append, hfl]
              omega
            have hfR : flatR (fun k => if k = n then R n ++ [l] else R k) n = flatR R n := flatR_eq n fun k hk => if_neg (by omega)
            refine ⟨(framesL (R n)).length, by omega, by omega, rfl, ?_, h8, ?_, hle, ra_frame hr ?_ (by omega), fun k => if k = n then R n ++ [l] else R k, ?_⟩
            · rw [if_pos h1, ptr_has hh, hbl]
            · rw [ptr_has hh2, hzn, List.length_append, hfl]
            · unfold rdB
              rw [if_pos hr, hzn, Int.toNat_natCast, Int.toNat_natCast, List.drop_left' rfl, ← hfl]
              exact List.take_of_length_le (Nat.le_refl _)
            · refine ⟨h4, h6.trans h.nz, h5.trans h.sz, h.nx, fun k hk => ?_, fun k hk hk2 => ?_, fun k hk => ?_, fun k x hx => ?_, fun k hk => ?_, ⟨?_, fun _ => ?_⟩, ?_, ?_⟩
              · rw [hz k]
                by_cases hkn : k = n
                · rw [if_pos hkn, if_pos hkn, framesL_snoc]
                  show (zoneM m (n : Int)).b ++ _ = _
                  rw [hbl]
                · rw [if_neg hkn, if_neg hkn]
                  exact h.zb k hk
              · rw [hz k, if_neg (by omega)]
                exact h.ze k hk hk2
              · rw [if_neg (by omega)]
                exact h.rz k hk
              · by_cases hkn : k = n
                · rw [if_pos hkn] at hx
                  rcases List.mem_append.1 hx with hx | hx
                  · exact h.rs n x hx
                  · rw [List.mem_singleton.1 hx]; exact hl
                · rw [if_neg hkn] at hx
                  exact h.rs k x hx
              · rw [hz k, if_neg (by omega)]
                exact h.zf k hk
              · have := h.zp.1
                simp only [Nat.add_sub_cancel] at this ⊢
                rw [if_pos trivial, List.length_append]
                omega
              · have h10 := h.zp
                simp only [Nat.add_sub_cancel] at h10 ⊢
                rw [if_pos trivial, List.take_append_of_le_length h10.1, hz n, if_pos rfl]
                exact h10.2 (by omega)
              · rw [h.ld]
                show (flatR R n ++ R n) ++ [l] = flatR _ n ++ (if n = n then R n ++ [l] else R n)
                rw [if_pos rfl, List.append_assoc, hfR]
              · rw [h.sf]
                show (flatR R n).length + p = (flatR _ n).length + p
                rw [hfR]
/-- What is told ahead of a crash, and behind it. -/
theorem ChI.rep {m : Dev} {Z S next p safe : Nat} {R : Nat → List (List UInt8)} {laid : List (List UInt8)} (h : ChI m Z S next p R laid safe) : repL m (zsL next) = (laid, true) := by
  have := repL_append (m := m) R [] next fun k hk => ⟨h.zb k hk, Nat.le_trans (h.small hk) (by omega)⟩
  rw [List.append_nil] at this
  rw [this, h.ld]
  show (flatR R next ++ [], true) = _
  rw [List.append_nil]
theorem crash_zone (m : Dev) (ks : List Int) (k : Nat) (hk : k < m.zs.length) : ∃ q, zoneM (crashM m ks) (k : Int) = crashZ m.size (zoneM m (k : Int)) q := by
  refine ⟨(ks.getD k 0).toNat, ?_⟩
  unfold zoneM crashM
  simp only [Int.toNat_natCast]
  rw [List.getD_eq_getElem?_getD, crashL_get _ _ _ _ hk]
  rfl
theorem ChI.crash {m : Dev} {Z S next p safe : Nat} {R : Nat → List (List UInt8)} {laid : List (List UInt8)} (h : ChI m Z S next p R laid safe) (ks : List Int) :
    Live (crashM m ks) ∧ (crashM m ks).zs.length = Z ∧ ∃ q b, repL (crashM m ks) (zsL next) = (laid.take q, b) ∧ q ≤ laid.length ∧ safe ≤ q := by
  have hlen : (crashM m ks).zs.length = Z := by
    show (crashL _ _ _).length = _
    rw [crashL_length]
    exact h.nz
  refine ⟨⟨wf_crash h.live.wf ks, rfl, rfl⟩, hlen, ?_⟩
  cases next with
  | zero =>
    refine ⟨0, true, ?_, Nat.zero_le _, ?_⟩
    · rw [List.take_zero]; rfl
    · have h1 := h.zp.1
      rw [h.rz _ (Nat.zero_le _)] at h1
      rw [h.sf]
      show (flatR R 0).length + p ≤ 0
      simp [flatR] at h1 ⊢
      exact h1
  | succ n =>
    have hnx := h.nx
    have hwhole : ∀ k, k < n → (zoneM (crashM m ks) (k : Int)).b = framesL (R k) ∧ (framesL (R k)).length ≤ 1000000 := fun k hk => by
      obtain ⟨q, hq⟩ := crash_zone m ks k (by rw [h.nz]; omega)
      refine ⟨?_, Nat.le_trans (h.small (k := k) (by omega)) (by omega)⟩
      rw [hq]
      show (zoneM m (k : Int)).b.take _ = _
      rw [h.zf k (by omega), List.take_of_length_le (by omega), h.zb k (by omega)]
    obtain ⟨q, hq⟩ := crash_zone m ks n (by rw [h.nz]; omega)
    have hb : (zoneM (crashM m ks) (n : Int)).b = (framesL (R n)).take ((zoneM m (n : Int)).f + min q ((zoneM m (n : Int)).b.length - (zoneM m (n : Int)).f)) := by
      rw [hq]
      show (zoneM m (n : Int)).b.take _ = _
      rw [h.zb n (by omega)]
    obtain ⟨c, hc⟩ : ∃ c, (zoneM m (n : Int)).f + min q ((zoneM m (n : Int)).b.length - (zoneM m (n : Int)).f) = c := ⟨_, rfl⟩
    rw [hc] at hb
    obtain ⟨k, hk1, hk2, hk3⟩ := cut_ex (R n) c fun x hx => by have := h.rs n x hx; omega
    have hscan : scanL ((framesL (R n)).take c) = (R n).take k := scanL_eq (by
      have := h.small (k := n) (by omega)
      rw [List.length_take]
      omega) hk2
    have hp := h.zp
    simp only [Nat.add_sub_cancel] at hp
    have hpk : p ≤ k := hk3 p hp.1 (by
      have := hp.2 (by omega)
      omega)
    have hrep : ∃ b, repL (crashM m ks) (zsL (n + 1)) = (flatR R n ++ (R n).take k, b) := by
      rw [zsL_succ, repL_append R [(n : Int)] n hwhole, repL_cons, hb, hscan]
      split
      · exact ⟨_, by
          show (flatR R n ++ ((R n).take k ++ []), true) = _
          rw [List.append_nil]⟩
      · exact ⟨_, rfl⟩
    obtain ⟨b, hrep⟩ := hrep
    refine ⟨(flatR R n).length + k, b, ?_, ?_, ?_⟩
    · rw [hrep, h.ld]
      show _ = ((flatR R n ++ R n).take _, b)
      rw [List.take_append, List.take_of_length_le (l := flatR R n) (by omega), Nat.add_sub_cancel_left]
    · rw [h.ld]
      show _ ≤ (flatR R n ++ R n).length
      rw [List.length_append]
      omega
    · rw [h.sf]
      show (flatR R n).length + p ≤ _
      omega
end Go.Proofs.YtcekgalppbfnhaaDoor
