/-
  Layer 8, the program's own table: slices.Delete of the first of a row of numbers of the call's own.
-/
import Derived.Test.YtmkadpjacidlkaaArB
import Derived.Deep.RegionLaw
import Derived.Lib.SliceRun
namespace Go.Proofs.Ytmkadpjacidlkaa
set_option linter.unusedVariables false
open Go.RowKit

/-- Cells, some of them laid anew from place o on. -/
def layC : List Value → Nat → List Value → List Value
  | cs, _, [] => cs
  | cs, o, v :: vs => layC (cs.set o v) (o + 1) vs
theorem layC_length : ∀ (vs cs : List Value) (o : Nat), (layC cs o vs).length = cs.length
  | [], _, _ => rfl
  | v :: vs, cs, o => by
    show (layC (cs.set o v) (o + 1) vs).length = _
    rw [layC_length vs, List.length_set]
theorem layC_get : ∀ (vs cs : List Value) (o i : Nat), o + vs.length ≤ cs.length → (layC cs o vs)[i]? = if o ≤ i ∧ i < o + vs.length then vs[i - o]? else cs[i]?
  | [], cs, o, i, _ => by
    rw [if_neg (by rw [List.length_nil]; omega)]
    rfl
  | v :: vs, cs, o, i, h => by
    show (layC (cs.set o v) (o + 1) vs)[i]? = _
    have hl : o + (vs.length + 1) ≤ cs.length := h
    rw [layC_get vs _ _ i (by rw [List.length_set]; omega)]
    by_cases h1 : o + 1 ≤ i ∧ i < o + 1 + vs.length
    · rw [if_pos h1, if_pos (by simp; omega), show i - o = (i - (o + 1)) + 1 by omega]
      rfl
    · rw [if_neg h1]
      by_cases h2 : i = o
      · subst h2
        rw [if_pos (by simp), Nat.sub_self, List.getElem?_set_self (by omega)]
        rfl
      · rw [if_neg (by simp; omega), List.getElem?_set_ne (fun e => h2 e.symm)]
theorem at_setCells {t : TypeId} {g : Nat} : ∀ (vs : List Value) (o : Nat) (w : World) (cs : Array Value), At w g t cs → At (w.setCells g o vs) g t (layC cs.toList o vs).toArray
  | [], _, _, _, h => h
  | v :: vs, o, w, cs, h => by
    have h1 := h.set_ o v
    have := at_setCells vs (o + 1) _ _ h1
    rw [Array.toList_setIfInBounds] at this
    exact this
theorem fr_setCells {S : Nat → Prop} {g : Nat} (hS : S g) : ∀ (vs : List Value) (o : Nat) (a w : World), Fr S a w → Fr S a (w.setCells g o vs)
  | [], _, _, _, h => h
  | v :: vs, o, a, w, h => fr_setCells hS vs (o + 1) a _ (h.setCell (p := ⟨g, o, none⟩) (fun _ => hS) v)
theorem size_setCells {g : Nat} : ∀ (vs : List Value) (o : Nat) (w : World), (w.setCells g o vs).heap.size = w.heap.size
  | [], _, _ => rfl
  | v :: vs, o, w => by
    show ((w.setCell ⟨g, o, none⟩ v).setCells g (o + 1) vs).heap.size = _
    rw [size_setCells vs]
    simp [World.setCell]
theorem zeroI (w : World) : (zeroValue 3).run Try.prog w = .ok (.int .i64 0) w := by
  obtain ⟨i0, hi, hz0, hz1, hz2⟩ := info_parts infoI64
  simp [zeroValue, typeInfo, hi, hz0]
set_option maxRecDepth 100000 in
set_option maxHeartbeats 2000000 in
theorem delete_c {w : World} {S : Nat → Prop} {v : Value} {z : Int} {zs : List Int} (h : RowI w S v (z :: zs)) :
    Calls Try.prog 33 #[v, .int .i64 0, .int .i64 1] w fun e w' => ∃ a c, e = .returned (.slice a zs.length c) ∧ RowI w' S (.slice a zs.length c) zs ∧ Fr S w w' := by
  obtain ⟨⟨h1, h2⟩, h3⟩ := h
  rcases h2 with ⟨_, h0⟩ | ⟨g, cap, cur, rfl, hb, hg, hn, hm, hc, ht⟩
  · simp at h0
  have hSg := h3 g rfl
  obtain ⟨n, hnl⟩ : ∃ n, zs.length = n := ⟨_, rfl⟩
  rw [List.length_cons, hnl] at hn ht
  rw [List.length_cons, hnl]
  obtain ⟨news, hnews⟩ : ∃ news, news = zs.map ig := ⟨_, rfl⟩
  have hlen : news.length = n := by rw [hnews, List.length_map, hnl]
  have hcl : cur.toList.length = cap := by rw [Array.length_toList, hc, Nat.mul_one]
  have hcur : ∀ i, i < n → cur[i + 1]? = news[i]? := fun i hi => by
    have : (cur.toList.take ((n + 1) * 1))[i + 1]? = ((z :: zs).map ig)[i + 1]? := by rw [ht]
    rw [List.getElem?_take, if_pos (by omega), Array.getElem?_toList] at this
    rw [this, hnews]
    rfl
  have hat : At w g 3 cur := hg
  have hatd : At w.drew g 3 cur := hg
  obtain ⟨A, hA, hsrc⟩ : ∃ A : Addr, (if cap = 1 then some (⟨g, 0, none⟩ : Addr) else some ⟨g, 1, none⟩) = some A ∧ Hid (∀ t u, news[t]? = some u → w.drew.cell? (A.add t) = some u) := by
    by_cases h : cap = 1
    · refine ⟨⟨g, 0, none⟩, by simp [h], fun t u hu => ?_⟩
      have h0 : news.length = 0 := by rw [hlen]; omega
      rw [List.length_eq_zero_iff.1 h0] at hu
      simp at hu
    · refine ⟨⟨g, 1, none⟩, by simp [h], fun t u hu => ?_⟩
      have ht2 : t < n := by
        have := (List.getElem?_eq_some_iff.1 hu).1
        rwa [hlen] at this
      rw [Addr.add_lit, hatd.cell, show 1 + t = t + 1 by omega, hcur t ht2, hu]
  have s1 : Hid (news.length = n * 1) := by rw [Nat.mul_one]; exact hlen
  have s2 : Hid (∀ u ∈ news, u.oneCell' = true) := by
    intro u hu
    rw [hnews] at hu
    obtain ⟨x, _, rfl⟩ := List.mem_map.1 hu
    rfl
  have s3 : Hid (∀ t, t < news.length → (w.drew.cell? ⟨g, 0 + 0 * 1 + t, none⟩).isSome = true ∧ w.drew.frozen? ⟨g, 0 + 0 * 1 + t, none⟩ = false) := by
    intro t ht2
    rw [hlen] at ht2
    refine ⟨?_, hatd.frozen _⟩
    rw [hatd.cell, Array.getElem?_eq_getElem (by omega)]
    rfl
  obtain ⟨W1, hW1⟩ : ∃ W1, W1 = w.drew.setCells g (0 + 0 * 1) news := ⟨_, rfl⟩
  have hat1 : At W1 g 3 (layC cur.toList 0 news).toArray := by rw [hW1]; exact at_setCells news 0 _ _ hatd
  have hsz1 : (layC cur.toList 0 news).toArray.size = cap := by simp [layC_length, hc]
  have hclr : ∀ ty, (Builtin.clear_ #[29] ty #[.slice (some ⟨g, n, none⟩) 1 (cap - n)]).run Try.prog W1 = .ok (.tuple #[]) (W1.setCells g n [.int .i64 0]) := fun ty => by
    exact Lib.run_clear_slice W1 29 3 ty (.int .i64 0) Try.underlying29 zeroI rfl rfl g n 1 _ (by omega) (fun j hj => by rw [hat1.cell, Array.getElem?_eq_getElem (by omega)]; rfl) (fun j hj => hat1.frozen _)
  have hat2 := at_setCells [.int .i64 0] n _ _ hat1
  have hf2 : Fr S w (W1.setCells g n [.int .i64 0]) := fr_setCells hSg _ _ _ _ (by rw [hW1]; exact fr_setCells hSg _ _ _ _ (Fr.refl S w).drew)
  have HRES : Hid (RowI (W1.setCells g n [.int .i64 0]) S (.slice (some ⟨g, 0, none⟩) n cap) zs ∧ Fr S w (W1.setCells g n [.int .i64 0])) := Lib.hid ⟨⟨⟨by simp, .inr ⟨g, cap, _, by rw [hnl], hb, hat2, by omega, hm, by simp [layC_length, hc], by
    rw [Nat.mul_one]
    apply List.ext_getElem?
    intro i
    rw [List.getElem?_take, hnl]
    by_cases hi : i < n
    · rw [if_pos hi]
      show (layC (layC cur.toList 0 news) n [.int .i64 0])[i]? = _
      rw [layC_get _ _ _ _ (by rw [layC_length, hcl]; show n + 1 ≤ cap; omega), if_neg (by omega), layC_get _ _ _ _ (by omega), if_pos (by omega), Nat.sub_zero, hnews]
    · rw [if_neg hi, List.getElem?_eq_none (by rw [List.length_map, hnl]; omega)]⟩⟩, fun k hk => h3 k hk⟩, hf2⟩
  obtain ⟨i0, hi0, hz0, hz1, hz2⟩ := info_parts infoI64
  have hone : ∀ w : World, (sizeOf 3).run Try.prog w = .ok 1 w := fun w => by simp [sizeOf, typeInfo, hi0, hz1, Result.andThen]
  have hlo : ∀ w : World, (Instr.slice 29 (.slice (some ⟨g, 0, none⟩) (n + 1) cap) (some (.int .i64 1)) none none).run Try.prog w = .ok (.slice (some A) n (cap - 1)) w := fun w => by
    have := cut_lo (P := Try.prog) Try.underlying29 hone (some ⟨g, 0, none⟩) (n + 1) cap 1 (by omega) w
    rw [show cutAt (some (⟨g, 0, none⟩ : Addr)) 1 cap = some A by rw [← hA]; unfold cutAt; split <;> simp [Addr.add]] at this
    exact this
  have hbo : ∀ w : World, (Instr.slice 29 (.slice (some ⟨g, 0, none⟩) n cap) (some (.int .i64 (n : Int))) (some (.int .i64 ((n : Int) + 1))) none).run Try.prog w = .ok (.slice (some ⟨g, n, none⟩) 1 (cap - n)) w := fun w => by
    have := cut_both (P := Try.prog) Try.underlying29 hone (some ⟨g, 0, none⟩) n cap n (n + 1) (by omega) (by omega) w
    rw [show cutAt (some (⟨g, 0, none⟩ : Addr)) n cap = some ⟨g, n, none⟩ by unfold cutAt; rw [if_neg (by omega)]; unfold Addr.add; split <;> simp_all, show n + 1 - n = 1 by omega] at this
    exact this
  have hW : Hid (W1 = w.drew.setCells g (0 + 0 * 1) news) := hW1
  have HI0 := Lib.hid hi0
  have HZ1 := Lib.hid hz1
  unfold maxLen at hm
  clear h1 h3 hat hat1 hat2 hf2 hatd hcur hnews hlen hW1 ht hc hcl hsz1 hg hnl hi0 hz1 hz0 hz2 hb
  go_enter Try.func33, Try.ntmps33
  go_wp2_with fail
  go_region_law (refine step_append_room rfl (.tmp 22) (.tmp 25) 29 rfl 3 i0 1 Try.underlying29 HI0.out HZ1.out g 0 0 cap (by simp [Act.eval, Act.put]) A n (cap - 1) news (by simp [Act.eval, Act.put]) s1.out hsrc.out s2.out (by omega) s3.out ?_; rw [← hW.out])
  go_wp2_with fail
  go_ret
  exact ⟨some ⟨g, 0, none⟩, cap, rfl, HRES.out.1, HRES.out.2⟩
end Go.Proofs.Ytmkadpjacidlkaa
