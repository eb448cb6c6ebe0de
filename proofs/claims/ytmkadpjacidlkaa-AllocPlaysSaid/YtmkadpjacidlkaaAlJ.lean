/-
  Layer 8: mathematics of AllocPlays; a change of the document's table beside the program's.
-/
import Derived.Test.YtmkadpjacidlkaaAlI
import Derived.Test.YtmkadpjacidlkaaRfC
namespace Go.Proofs.Ytmkadpjacidlkaa
set_option linter.unusedVariables false
open Go.RowKit

theorem make_ints (w : World) (n : Nat) (h : n ≤ 64) :
    (Instr.makeSlice 29 (.int .i64 (n : Int)) (.int .i64 (n : Int))).run Try.prog w = .ok (.slice (some ⟨w.heap.size, 0, none⟩) n n) (w.alloc (.cells (ign (List.replicate n 0)).toArray 3)) := by
  obtain ⟨i0, hi, hz0, hz1, hz2⟩ := info_parts infoI64
  have hr := run_make (P := Try.prog) w 29 3 i0 (.int .i64 0) Try.underlying29 hi hz0 .i64 .i64 n n (by omega) (by omega) (by rw [hz2]; omega) (by omega)
  rw [hz1] at hr
  simp only [Int.toNat_natCast] at hr
  rw [show (Value.int .i64 0).cells = #[.int .i64 0] from rfl] at hr
  rw [hr]
  congr 3
  apply Array.ext'
  apply List.ext_getElem?
  intro i
  unfold madeCells ign
  simp only [List.map_replicate, Array.toList_map, Nat.mul_one]
  by_cases hi : i < n
  · simp [hi, Nat.mod_one]
  · simp [hi]
/-- The document's table is new. -/
theorem rf_new (w : World) (Z : Nat) : Rf (w.heap.size + 1) w.heap.size (newT (Z : Int)) ((w.alloc (.cells (ign (List.replicate Z 0)).toArray 3)).alloc (.cells #[.slice (some ⟨w.heap.size, 0, none⟩) Z Z, .slice none 0 0] 31)) (fun k => k = w.heap.size ∨ k = w.heap.size + 1) ∧
    Fr No w ((w.alloc (.cells (ign (List.replicate Z 0)).toArray 3)).alloc (.cells #[.slice (some ⟨w.heap.size, 0, none⟩) Z Z, .slice none 0 0] 31)) ∧
    ((w.alloc (.cells (ign (List.replicate Z 0)).toArray 3)).alloc (.cells #[.slice (some ⟨w.heap.size, 0, none⟩) Z Z, .slice none 0 0] 31)).heap.size = w.heap.size + 2 := by
  obtain ⟨wa, ha⟩ : ∃ wa, w.alloc (.cells (ign (List.replicate Z 0)).toArray 3) = wa := ⟨_, rfl⟩
  obtain ⟨wb, hb⟩ : ∃ wb, wa.alloc (.cells #[.slice (some ⟨w.heap.size, 0, none⟩) Z Z, .slice none 0 0] 31) = wb := ⟨_, rfl⟩
  have sa : wa.heap.size = w.heap.size + 1 := by rw [← ha]; simp
  have sb : wb.heap.size = w.heap.size + 2 := by rw [← hb, World.size_alloc, sa]
  have fa : Fr No w wa := by rw [← ha]; exact (Fr.refl _ _).alloc _
  have fb : Fr No wa wb := by rw [← hb]; exact (Fr.refl _ _).alloc _
  have k0 : At wa w.heap.size 3 (ign (List.replicate Z 0)).toArray := by rw [← ha]; exact At.new _ _ _
  have k1 : At wb wa.heap.size 31 #[.slice (some ⟨w.heap.size, 0, none⟩) Z Z, .slice none 0 0] := by rw [← hb]; exact At.new _ _ _
  rw [sa] at k1
  rw [ha, hb]
  refine ⟨⟨none, 0, ?_, ?_, by omega, .inl ⟨rfl, rfl, rfl⟩, .inr rfl, .inl rfl, fun k hk => by omega⟩, fa.trans fb, sb⟩
  · show At wb _ _ #[.slice (some ⟨w.heap.size, 0, none⟩) (List.replicate (Z : Int).toNat 0).length (List.replicate (Z : Int).toNat 0).length, .slice none 0 0]
    rw [List.length_replicate, Int.toNat_natCast]
    exact k1
  · show At wb _ _ (ign (List.replicate (Z : Int).toNat 0)).toArray
    rw [Int.toNat_natCast]
    exact k0.keep fb (fun h => h)
/-- The document's table, and a block that is none of its own. -/
def RfN (o X g : Nat) (b : Tb) (w : World) (S : Nat → Prop) : Prop := Rf X g b w S ∧ ¬ S o
theorem keepsRfN (o X g : Nat) (b : Tb) : Keeps (RfN o X g b) := ⟨fun h f hn => ⟨(keepsRf X g b).k h.1 f hn, h.2⟩⟩
section
variable {D : World → Nat → (Nat → Prop) → Dev → Prop} {T : World → Nat → (Nat → Prop) → Tb → Prop} {W w : World} {t : Nat} {F : Nat → Prop} {b : Tb} {d : Nat} {G : Nat → Prop} {m : Dev}
/-- A call that works on the document's table, beside the program's. -/
theorem both_r (M : ZoneOK D) (A : AllocOK D T) {o X g : Nat} {b0 b1 : Tb} (hO : Own2 D T W w t F b d G m) (hB : Bes (RfN o X g b0) W w F G) (ho : o < w.heap.size) {f : FuncId} {args : Array Value} {v : Value}
    (c : ∀ S, Rf X g b0 w S → Calls Try.prog f args w (MoveR X g S b1 v w)) :
    Calls Try.prog f args w fun e w' => e = .returned v ∧ Own2 D T W w' t F b d G m ∧ Bes (RfN o X g b1) W w' F G ∧ w.heap.size ≤ w'.heap.size ∧ ∀ i v, w.cell? ⟨o, i, none⟩ = some v → w'.cell? ⟨o, i, none⟩ = some v := by
  obtain ⟨S, ⟨hr, hno⟩, hS⟩ := hB
  refine (c S hr).mono fun e w' ⟨h1, S', h2, h3, h4⟩ => ⟨h1, hO.turnS M A h4 hS, ⟨S', ⟨h2, fun h => (h3 o h).elim hno (fun h => by omega)⟩, fun x hx => ?_⟩, h4.size, fun i v hv => h4.cell hv hno⟩
  have hz := h4.size
  rcases h3 x hx with h5 | h5
  · obtain ⟨s1, s2, s3, s4⟩ := hS x h5
    exact ⟨s1, s2, s3, by omega⟩
  · have h6 := hO.fr.size
    exact ⟨hO.tb.low A x h5.1, hO.dv.low M x h5.1, by omega, h5.2⟩
/-- A store into the document's table. -/
theorem both_w (M : ZoneOK D) (A : AllocOK D T) {o X g : Nat} {b0 b1 : Tb} {w' : World} (hO : Own2 D T W w t F b d G m) (hB : Bes (RfN o X g b0) W w F G) (ho : o < w.heap.size)
    (c : ∀ S, Rf X g b0 w S → ∃ S', Rf X g b1 w' S' ∧ (∀ k, S' k → S k ∨ (w.heap.size ≤ k ∧ k < w'.heap.size)) ∧ Fr S w w') :
    Own2 D T W w' t F b d G m ∧ Bes (RfN o X g b1) W w' F G ∧ ∀ i v, w.cell? ⟨o, i, none⟩ = some v → w'.cell? ⟨o, i, none⟩ = some v := by
  obtain ⟨S, ⟨hr, hno⟩, hS⟩ := hB
  obtain ⟨S', h2, h3, h4⟩ := c S hr
  refine ⟨hO.turnS M A h4 hS, ⟨S', ⟨h2, fun h => (h3 o h).elim hno (fun h => by omega)⟩, fun x hx => ?_⟩, fun i v hv => h4.cell hv hno⟩
  have hz := h4.size
  rcases h3 x hx with h5 | h5
  · obtain ⟨s1, s2, s3, s4⟩ := hS x h5
    exact ⟨s1, s2, s3, by omega⟩
  · have h6 := hO.fr.size
    exact ⟨hO.tb.low A x h5.1, hO.dv.low M x h5.1, by omega, h5.2⟩
end
theorem pow_zs (m : Dev) : (powM m).zs = m.zs := by unfold powM; split <;> rfl
/-- A reset: the ways. -/
theorem rst_ways {b : Tb} {m : Dev} (hw : WT b) (hl : m.zs.length = b.r.length) {z : Nat} {zs : List Nat} (hq : b.q = z :: zs) :
    (rstE b m = 74 ∧ rstZ b m = 0 ∧ (rstM b m).down = true ∧ rstT b m = b) ∨ (rstE b m = 0 ∧ rstZ b m = (z : Int) ∧ (rstM b m).down = false ∧ stateM (rstM b m) (z : Int) = 0 ∧ rstT b m = { r := b.r.set z 0, q := zs }) := by
  have hz := (hw.qr z).1 (by rw [hq]; exact List.mem_cons_self ..)
  have hh := hasD hl hz.1
  have eE : rstE b m = cmdR m (resErr m (z : Int)) := by unfold rstE; rw [hq]
  have eM : rstM b m = resM m (z : Int) := by unfold rstM; rw [hq]
  have eZ : rstZ b m = if rstE b m = 0 then (z : Int) else 0 := by unfold rstZ; rw [hq]
  have eT : rstT b m = if rstE b m = 0 then { r := b.r.set z 0, q := zs } else b := by unfold rstT; rw [hq]
  cases hd : m.down with
  | true =>
    have e0 : resErr m (z : Int) = 74 := by unfold resErr; rw [hd]; rfl
    left
    have e1 : rstE b m = 74 := by rw [eE, e0]; rfl
    refine ⟨e1, by rw [eZ, e1]; rfl, ?_, by rw [eT, e1]; rfl⟩
    rw [eM]
    unfold resM
    rw [e0]
    exact hd
  | false =>
    have e0 : resErr m (z : Int) = 0 := by unfold resErr; rw [hd, hh]; rfl
    cases hc : cmdM m with
    | false =>
      left
      have e1 : rstE b m = 74 := by rw [eE, e0]; unfold cmdR; rw [hc]; rfl
      refine ⟨e1, by rw [eZ, e1]; rfl, ?_, by rw [eT, e1]; rfl⟩
      rw [eM]
      unfold resM
      rw [e0, hc]
      show (powM m).down = true
      unfold cmdM at hc
      unfold powM
      cases ha : m.arm with
      | none => rw [ha] at hc; cases hc
      | some k =>
        rw [ha] at hc
        cases k with
        | zero => rfl
        | succ k => cases hc
    | true =>
      right
      have e1 : rstE b m = 0 := by rw [eE, e0]; unfold cmdR; rw [hc]; rfl
      have eR : resM m (z : Int) = powM (setZ m (z : Int) zn0) := by unfold resM; rw [e0, hc]; rfl
      refine ⟨e1, by rw [eZ, e1]; rfl, ?_, ?_, by rw [eT, e1]; rfl⟩
      · rw [eM, eR]
        unfold cmdM at hc
        unfold powM setZ
        cases ha : m.arm with
        | none => exact hd
        | some k =>
          rw [ha] at hc
          cases k with
          | zero => cases hc
          | succ k => exact hd
      · rw [eM, eR, stateD (Z := b.r.length) (by rw [pow_zs]; unfold setZ; rw [List.length_set]; exact hl) hz.1, pow_zs]
        show (((m.zs.set z zn0).getD z zn0).s : Int) = 0
        rw [List.getD_eq_getElem?_getD, List.getElem?_set, if_pos rfl, if_pos (by rw [hl]; exact hz.1)]
        rfl
/-- The document's rebuild, as far as zone k. -/
def prT (b : Tb) (m : Dev) (k : Nat) : Tb := { r := ((List.range k).filter (leftT b m)).foldl (fun r z => r.set z 6) b.r, q := b.q ++ (List.range k).filter (leftT b m) }
theorem pr_zero (b : Tb) (m : Dev) : prT b m 0 = b := by unfold prT; simp
theorem pr_all (b : Tb) (m : Dev) : prT b m b.r.length = rebT b m := rfl
theorem pr_yes {b : Tb} {m : Dev} {k : Nat} (h : leftT b m k = true) : prT b m (k + 1) = { r := (prT b m k).r.set k 6, q := (prT b m k).q ++ [k] } ∧ ((List.range (k + 1)).filter (leftT b m)).length = ((List.range k).filter (leftT b m)).length + 1 := by
  have e : (List.range (k + 1)).filter (leftT b m) = (List.range k).filter (leftT b m) ++ [k] := by
    rw [List.range_succ, List.filter_append, List.filter_cons, if_pos h, List.filter_nil]
  unfold prT
  rw [e, List.foldl_append, List.append_assoc, List.length_append]
  exact ⟨rfl, rfl⟩
theorem pr_no {b : Tb} {m : Dev} {k : Nat} (h : leftT b m k = false) : prT b m (k + 1) = prT b m k ∧ ((List.range (k + 1)).filter (leftT b m)).length = ((List.range k).filter (leftT b m)).length := by
  have e : (List.range (k + 1)).filter (leftT b m) = (List.range k).filter (leftT b m) := by
    rw [List.range_succ, List.filter_append, List.filter_cons, if_neg (by rw [h]; decide), List.filter_nil, List.append_nil]
  unfold prT
  rw [e]
  exact ⟨rfl, rfl⟩
theorem pr_len (b : Tb) (m : Dev) (k : Nat) : (prT b m k).r.length = b.r.length := (fold_six _ _).1
theorem pr_get {b : Tb} (m : Dev) {k : Nat} (hk : k < b.r.length) : (prT b m k).r.getD k 0 = b.r.getD k 0 := by
  show (((List.range k).filter (leftT b m)).foldl (fun r z => r.set z 6) b.r).getD k 0 = _
  rw [(fold_six _ _).2 k hk, if_neg]
  intro h
  have := List.mem_range.1 (List.mem_filter.1 h).1
  omega
theorem pr_ways (b : Tb) (m : Dev) (hl : m.zs.length = b.r.length) {k : Nat} (hk : k < b.r.length) :
    (leftT b m k = false ∧ (b.r.getD k 0 == 0) = false) ∨ (leftT b m k = false ∧ b.r.getD k 0 = 0 ∧ decide (0 < stateM m (k : Int)) = false) ∨ (leftT b m k = true ∧ b.r.getD k 0 = 0 ∧ decide (0 < stateM m (k : Int)) = true) := by
  rw [stateD hl hk]
  unfold leftT
  cases h : (b.r.getD k 0 == 0) with
  | false => left; exact ⟨rfl, rfl⟩
  | true =>
    right
    have h0 := eq_of_beq h
    rw [h0]
    generalize (m.zs.getD k zn0).s = s
    cases s with
    | zero => left; exact ⟨rfl, rfl, rfl⟩
    | succ s => right; exact ⟨rfl, rfl, by rw [decide_eq_true_eq]; omega⟩
theorem count_list (b : Tb) (x : Int) : countT b x = (listT b x).length := by
  unfold countT listT
  exact count_range b.r x
theorem list_lt (b : Tb) (x : Int) : ∀ z ∈ listT b x, z < b.r.length := fun z hz => List.mem_range.1 (List.mem_filter.1 hz).1
theorem role_out (b : Tb) : roleT b (-1) = -1 ∧ ∀ Z : Nat, b.r.length = Z → roleT b (Z : Int) = -1 := by
  constructor
  · unfold roleT
    rw [show hasT b (-1) = false by unfold hasT; rw [decide_eq_false (by omega)]; rfl]
    rfl
  · intro Z hZ
    unfold roleT
    rw [show hasT b (Z : Int) = false by unfold hasT; rw [hZ, decide_eq_false (show ¬ (Z : Int) < (Z : Int) by omega), Bool.and_false]]
    rfl
end Go.Proofs.Ytmkadpjacidlkaa
namespace Go.Proofs.Ytmkadpjacidlkaa
set_option linter.unusedVariables false
open Go.RowKit

section
variable {D : World → Nat → (Nat → Prop) → Dev → Prop} {T : World → Nat → (Nat → Prop) → Tb → Prop} {W w w' : World} {t : Nat} {F : Nat → Prop} {b : Tb} {d : Nat} {G : Nat → Prop} {m : Dev}
/-- A change of the document's table, its blocks known. -/
theorem both_s (M : ZoneOK D) (A : AllocOK D T) {o X g : Nat} {b1 : Tb} {S S' : Nat → Prop} (hO : Own2 D T W w t F b d G m) (hno : ¬ S o) (hS : ∀ x, S x → ¬ F x ∧ ¬ G x ∧ W.heap.size ≤ x ∧ x < w.heap.size) (ho : o < w.heap.size)
    (h2 : Rf X g b1 w' S') (h3 : ∀ k, S' k → S k ∨ (w.heap.size ≤ k ∧ k < w'.heap.size)) (h4 : Fr S w w') : Own2 D T W w' t F b d G m ∧ Bes (RfN o X g b1) W w' F G := by
  refine ⟨hO.turnS M A h4 hS, ⟨S', ⟨h2, fun h => (h3 o h).elim hno (fun h => by omega)⟩, fun x hx => ?_⟩⟩
  have hz := h4.size
  rcases h3 x hx with h5 | h5
  · obtain ⟨s1, s2, s3, s4⟩ := hS x h5
    exact ⟨s1, s2, s3, by omega⟩
  · have h6 := hO.fr.size
    exact ⟨hO.tb.low A x h5.1, hO.dv.low M x h5.1, by omega, h5.2⟩
theorem bes_o {o X g : Nat} {b1 : Tb} (h : Bes (RfN o X g b1) W w F G) : Bes (Rf X g b1) W w F G := by
  obtain ⟨S, hr, hS⟩ := h
  exact ⟨S, hr.1, hS⟩
end
end Go.Proofs.Ytmkadpjacidlkaa
