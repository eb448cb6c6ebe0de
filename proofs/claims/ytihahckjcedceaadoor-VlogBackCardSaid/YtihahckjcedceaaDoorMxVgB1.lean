/-
  Layer 14, mathematics of VlogBack: items that stand in four zones.
-/
import Derived.Test.YtihahckjcedceaaDoorMxVgY
namespace Go.Proofs.YtihahckjcedceaaDoor
set_option linter.unusedVariables false
set_option linter.unusedSimpArgs false
open Go.RowKit

def recs (l : List Ent) : List (List UInt8) := l.map fun x => recB (eKy x) x.val
def RtE (x : Ent) : Prop := (eKy x).rt ∧ x.val.size ≤ 500
theorem recs_snoc (l : List Ent) (x : Ent) : recs (l ++ [x]) = recs l ++ [recB (eKy x) x.val] := by simp [recs]
theorem zvl_T (z : Int) : ∀ (l : List Ent) (a : Nat), (∀ x ∈ l, RtE x) → (vlList z a (recs l)).map vlT = l.map enT
  | [], _, _ => rfl
  | x :: l, a, h => by
    have hx := h x List.mem_cons_self
    show (vlOne z a (recB (eKy x) x.val) ++ vlList z _ (recs l)).map vlT = _
    rw [vlOne_rec z a hx.1 x.val (by have := hx.2; omega), List.map_append, zvl_T z l _ fun y hy => h y (List.mem_cons_of_mem _ hy)]
    rfl
theorem zvl_mem (z : Int) : ∀ (l : List Ent) (a : Nat) (y : Vl), (∀ x ∈ l, RtE x) → y ∈ vlList z a (recs l) →
    ∃ p q, framesL (recs l) = p ++ (frameL (recB y.x y.s) ++ q) ∧ y.t = ((a + p.length : Nat) : Int) ∧ y.n = ((recB y.x y.s).length : Int) ∧ y.z = z ∧ y.x.rt ∧ y.s.size ≤ 500
  | [], _, _, _, hy => absurd hy List.not_mem_nil
  | x :: l, a, y, h, hy => by
    have hx := h x List.mem_cons_self
    have hy : y ∈ vlOne z a (recB (eKy x) x.val) ++ vlList z (a + sizeL (recB (eKy x) x.val).length) (recs l) := hy
    rw [vlOne_rec z a hx.1 x.val (by have := hx.2; omega)] at hy
    show ∃ p q, frameL (recB (eKy x) x.val) ++ framesL (recs l) = _ ∧ _
    rcases List.mem_append.1 hy with hy | hy
    · obtain rfl := List.mem_singleton.1 hy
      exact ⟨[], framesL (recs l), rfl, rfl, rfl, rfl, hx.1, hx.2⟩
    · obtain ⟨p, q, h1, h2, h3, h4, h5, h6⟩ := zvl_mem z l _ y (fun y hy => h y (List.mem_cons_of_mem _ hy)) hy
      refine ⟨frameL (recB (eKy x) x.val) ++ p, q, by rw [h1, List.append_assoc], ?_, h3, h4, h5, h6⟩
      rw [h2, List.length_append, frameL_length]
      omega
def zvl (S : Int → List Ent) (z : Int) : List Vl := vlList z 0 (recs (S z))
def allV (S : Int → List Ent) : List Vl := zvl S 0 ++ zvl S 1 ++ zvl S 2 ++ zvl S 3
def allE (S : Int → List Ent) : List Ent := S 0 ++ S 1 ++ S 2 ++ S 3
/-- The log's zones and what stands in them. -/
structure BkI (m : Dev) (nx : Nat) (zs : List Int) (S : Int → List Ent) : Prop where
  dv : ∃ b, Dv4 m b nx ∧ ∀ z, 0 ≤ z → z < 4 → b z = framesL (recs (S z))
  rt : ∀ z, ∀ x ∈ S z, RtE x
  emp : ∀ z : Int, (nx : Int) ≤ z → S z = []
  n4 : nx ≤ 4
  zl : zs.length = nx
  zz : ∀ z ∈ zs, z < (nx : Int)
  zn : 0 < nx → lastZ zs = (nx : Int) - 1
theorem BkI.start : BkI (newM 4 400 4) 0 [] (fun _ => []) := ⟨⟨_, Dv4.new_, fun _ _ _ => rfl⟩, fun _ _ h => absurd h List.not_mem_nil, fun _ _ => rfl, by omega, rfl, fun _ h => absurd h List.not_mem_nil, fun h => absurd h (by omega)⟩
theorem BkI.wf {m : Dev} {nx : Nat} {zs : List Int} {S : Int → List Ent} (h : BkI m nx zs S) : WF m := by
  obtain ⟨b, h1, _⟩ := h.dv
  exact h1.live.wf
theorem BkI.grow {m : Dev} {nx : Nat} {zs : List Int} {S : Int → List Ent} (h : BkI m nx zs S) (hn : nx < 4) : okGrow m zs (nx : Int) = true ∧ BkI m (nx + 1) (zs ++ [(nx : Int)]) S := by
  obtain ⟨b, h1, h2⟩ := h.dv
  refine ⟨?_, ⟨⟨b, h1.more (by omega), h2⟩, h.rt, fun z hz => h.emp z (by omega), by omega, by rw [List.length_append, h.zl]; rfl, fun z hz => ?_, fun _ => by rw [lastZ_snoc]; omega⟩⟩
  · unfold okGrow stateM
    rw [if_pos (h1.has (by omega) (by omega)), (h1.new nx (Int.le_refl _) (by omega) (by omega)).1]
    rw [Bool.and_eq_true]
    refine ⟨rfl, ?_⟩
    rw [Bool.not_eq_true', decide_eq_false_iff_not]
    intro hz
    exact absurd (h.zz _ hz) (by omega)
  · rcases List.mem_append.1 hz with hz | hz
    · have := h.zz z hz
      omega
    · have := List.mem_singleton.1 hz
      omega
theorem BkI.room0 {m : Dev} {zs : List Int} {S : Int → List Ent} (h : BkI m 0 zs S) : roomL m zs = 0 := by
  have : zs = [] := List.eq_nil_of_length_eq_zero h.zl
  unfold roomL
  rw [if_pos this]
/-- An item more in the last zone. -/
def putS (S : Int → List Ent) (z : Int) (x : Ent) : Int → List Ent := fun k => if k = z then S k ++ [x] else S k
theorem zvl_put (S : Int → List Ent) (z : Int) (x : Ent) (hx : RtE x) : zvl (putS S z x) z = zvl S z ++ [⟨eKy x, x.val, z, ((framesL (recs (S z))).length : Int), ((recB (eKy x) x.val).length : Int)⟩] := by
  unfold zvl putS
  rw [if_pos rfl, recs_snoc, vlList_snoc, Nat.zero_add, vlOne_rec z _ hx.1 x.val (by have := hx.2; omega)]
theorem zvl_ne (S : Int → List Ent) {z k : Int} (h : k ≠ z) (x : Ent) : zvl (putS S z x) k = zvl S k := by
  unfold zvl putS
  rw [if_neg h]
theorem zvl_emp {S : Int → List Ent} {z : Int} (h : S z = []) : zvl S z = [] := by
  unfold zvl
  rw [h]
  rfl
theorem all_put {S : Int → List Ent} {nx : Nat} (h0 : 0 < nx) (h4 : nx ≤ 4) (he : ∀ z : Int, (nx : Int) ≤ z → S z = []) {x : Ent} (hx : RtE x) :
    allE (putS S ((nx : Int) - 1) x) = allE S ++ [x] ∧ allV (putS S ((nx : Int) - 1) x) = allV S ++ [⟨eKy x, x.val, (nx : Int) - 1, ((framesL (recs (S ((nx : Int) - 1)))).length : Int), ((recB (eKy x) x.val).length : Int)⟩] := by
  have hc : nx = 1 ∨ nx = 2 ∨ nx = 3 ∨ nx = 4 := by omega
  unfold allE allV
  rcases hc with rfl | rfl | rfl | rfl
  · have a1 := he 1 (by decide)
    have a2 := he 2 (by decide)
    have a3 := he 3 (by decide)
    rw [show ((1 : Nat) : Int) - 1 = 0 from rfl, zvl_put S 0 x hx, zvl_ne S (by decide), zvl_ne S (by decide), zvl_ne S (by decide), zvl_emp a1, zvl_emp a2, zvl_emp a3]
    simp [putS, a1, a2, a3]
  · have a2 := he 2 (by decide)
    have a3 := he 3 (by decide)
    rw [show ((2 : Nat) : Int) - 1 = 1 from rfl, zvl_put S 1 x hx, zvl_ne S (k := 0) (by decide), zvl_ne S (k := 2) (by decide), zvl_ne S (k := 3) (by decide), zvl_emp a2, zvl_emp a3]
    simp [putS, a2, a3]
  · have a3 := he 3 (by decide)
    rw [show ((3 : Nat) : Int) - 1 = 2 from rfl, zvl_put S 2 x hx, zvl_ne S (k := 0) (by decide), zvl_ne S (k := 1) (by decide), zvl_ne S (k := 3) (by decide), zvl_emp a3]
    simp [putS, a3]
  · rw [show ((4 : Nat) : Int) - 1 = 3 from rfl, zvl_put S 3 x hx, zvl_ne S (k := 0) (by decide), zvl_ne S (k := 1) (by decide), zvl_ne S (k := 2) (by decide)]
    simp [putS]
theorem BkI.put {m : Dev} {nx : Nat} {zs : List Int} {S : Int → List Ent} (h : BkI m nx zs S) (h0 : 0 < nx) {x : Ent} (hx : RtE x) {R : List UInt8} (hR : recB (eKy x) x.val = R) {Z : Nat} (hZ : sizeL R.length = Z) :
    ((∃ e, e ≠ 0 ∧ putT m zs R = (0, 0, 0, e)) ∧ roomL m zs < (Z : Int) ∧ BkI (appDv m zs R) nx zs S) ∨
    (∃ t : Int, putT m zs R = ((nx : Int) - 1, t, (R.length : Int), 0) ∧ (Z : Int) ≤ roomL m zs ∧ ptrM (appDv m zs R) ((nx : Int) - 1) - (Z : Int) = t ∧ BkI (appDv m zs R) nx zs (putS S ((nx : Int) - 1) x) ∧ allE (putS S ((nx : Int) - 1) x) = allE S ++ [x] ∧
      allV (putS S ((nx : Int) - 1) x) = allV S ++ [⟨eKy x, x.val, (nx : Int) - 1, t, (R.length : Int)⟩]) := by
  obtain ⟨b, hD, hb⟩ := h.dv
  have hzs : zs ≠ [] := fun hz => by have := h.zl; rw [hz] at this; simp at this; omega
  have h4 := h.n4
  have hz0 : 0 ≤ (nx : Int) - 1 := by omega
  have hz1 : (nx : Int) - 1 < 4 := by omega
  have hbz := hb _ hz0 hz1
  obtain ⟨hroom, ⟨a1, a2, a3, a4⟩ | ⟨a1, a2, a3, a4⟩⟩ := hD.put hzs (h.zn h0) hz0 hz1 (by omega) R
  · refine .inl ⟨⟨_, a1, putT_err a1⟩, by rw [hroom]; omega, by rw [a3]; exact h⟩
  · have hall := all_put h0 h4 h.emp hx
    rw [hR, ← hbz] at hall
    refine .inr ⟨_, putT_ok a1, by rw [hroom]; omega, ?_, ⟨⟨_, a3, fun z z0 z1 => ?_⟩, fun z y hy => ?_, fun z hz => ?_, h4, h.zl, h.zz, h.zn⟩, hall.1, hall.2⟩
    · rw [a3.ptr hz0 hz1, updB_at, List.length_append, frameL_length, hZ]
      omega
    · by_cases hc : z = (nx : Int) - 1
      · subst hc
        rw [updB_at, hbz]
        unfold putS
        rw [if_pos rfl, recs_snoc, framesL_snoc, hR]
      · rw [updB_ne _ hc]
        unfold putS
        rw [if_neg hc]
        exact hb z z0 z1
    · unfold putS at hy
      split at hy
      · rcases List.mem_append.1 hy with hy | hy
        · exact h.rt z y hy
        · rw [List.mem_singleton.1 hy]
          exact hx
      · exact h.rt z y hy
    · unfold putS
      rw [if_neg (by omega)]
      exact h.emp z hz
/-- What the zones tell. -/
theorem BkI.list {m : Dev} {nx : Nat} {zs : List Int} {S : Int → List Ent} (h : BkI m nx zs S) {z : Int} (z0 : 0 ≤ z) (z1 : z < 4) : rdErr m z 0 (ptrM m z) = 0 ∧ vlR z (rdB m z 0 (ptrM m z)) = zvl S z := by
  obtain ⟨b, hD, hb⟩ := h.dv
  have hr := hD.rd z0 z1
  have hle := hD.le z0 z1
  refine ⟨hr.1, ?_⟩
  rw [hb z z0 z1] at hle
  rw [hr.2, hb z z0 z1]
  unfold vlR zvl
  rw [scan_frames _ (by omega)]
theorem BkI.same {m : Dev} {nx : Nat} {zs : List Int} {S : Int → List Ent} (h : BkI m nx zs S) : (allV S).map vlT = (allE S).map enT := by
  unfold allV allE zvl
  simp only [List.map_append]
  rw [zvl_T 0 _ 0 (h.rt 0), zvl_T 1 _ 0 (h.rt 1), zvl_T 2 _ 0 (h.rt 2), zvl_T 3 _ 0 (h.rt 3)]
theorem BkI.mem {m : Dev} {nx : Nat} {zs : List Int} {S : Int → List Ent} (h : BkI m nx zs S) {y : Vl} (hy : y ∈ allV S) : y.x.rt ∧ vgetR m y.z y.t y.n y.x = (y.s, 0) ∧ vgetR m y.z y.t y.n ⟨y.x.u, y.x.q + 1, y.x.k⟩ = (⟨#[]⟩, 140) := by
  obtain ⟨b, hD, hb⟩ := h.dv
  have key : ∀ z, 0 ≤ z → z < 4 → y ∈ zvl S z → y.x.rt ∧ vgetR m y.z y.t y.n y.x = (y.s, 0) ∧ vgetR m y.z y.t y.n ⟨y.x.u, y.x.q + 1, y.x.k⟩ = (⟨#[]⟩, 140) := fun z z0 z1 hz => by
    obtain ⟨p, q, h1, h2, h3, h4, h5, h6⟩ := zvl_mem z (S z) 0 y (h.rt z) hz
    rw [Nat.zero_add] at h2
    have hg := fun k => hD.get z0 z1 h5 (by omega) ((hb z z0 z1).trans h1) k
    rw [h4, h2, h3]
    refine ⟨h5, by rw [hg, if_pos rfl], ?_⟩
    rw [hg, if_neg]
    intro he
    have := congrArg Ky.q he
    simp only at this
    omega
  unfold allV at hy
  rcases List.mem_append.1 hy with hy | hy
  · rcases List.mem_append.1 hy with hy | hy
    · rcases List.mem_append.1 hy with hy | hy
      · exact key 0 (by decide) (by decide) hy
      · exact key 1 (by decide) (by decide) hy
    · exact key 2 (by decide) (by decide) hy
  · exact key 3 (by decide) (by decide) hy
end Go.Proofs.YtihahckjcedceaaDoor
