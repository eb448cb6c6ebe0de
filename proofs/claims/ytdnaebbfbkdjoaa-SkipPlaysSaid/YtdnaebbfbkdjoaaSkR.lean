/-
  Plain mathematics of layer 5: the document's Put beside the nodes: a new key, a key put again. No function of the program is named.
-/
import Derived.Test.YtdnaebbfbkdjoaaSkO
import Derived.Test.YtdnaebbfbkdjoaaSkH
namespace Go.Proofs.Ytdnaebbfbkdjoaa
set_option linter.unusedVariables false

theorem getD_map_prOf (ns : List (Nd Int Int)) (j : Nat) (hj : j < ns.length) : (ns.map prOf).getD j pr0 = prOf ns[j] := by
  rw [List.getD_eq_getElem?_getD, List.getElem?_map, List.getElem?_eq_getElem hj]
  rfl
theorem findI_new {ns : List (Nd Int Int)} {k : Int} (hk : ∀ x ∈ ns, x.k ≠ k) : findI (ns.map prOf) k = -1 := by
  rcases firstAt_find (fun x => x.k == k) (ns.map prOf) 0 with h | ⟨j, hj, _, h2⟩
  · exact h.1
  · have hj' : j < ns.length := by simpa using hj
    rw [getD_map_prOf ns j hj'] at h2
    have h3 : ((prOf ns[j]).k == k) = true := List.find?_some (p := fun x : Pr => x.k == k) h2
    exact absurd (by simpa [prOf] using h3) (hk ns[j] (List.getElem_mem hj'))
theorem findI_there {ns : List (Nd Int Int)} (hs : Sorted ltI ns) {x : Nd Int Int} (hx : x ∈ ns) : ∃ j, ∃ hj : j < ns.length, findI (ns.map prOf) x.k = (j : Int) ∧ ns[j] = x := by
  rcases firstAt_find (fun y => y.k == x.k) (ns.map prOf) 0 with h | ⟨j, hj, h1, h2⟩
  · exact absurd (show ((prOf x).k == x.k) = true by simp [prOf]) (List.find?_eq_none.1 h.2 _ (List.mem_map_of_mem hx))
  · have hj' : j < ns.length := by simpa using hj
    rw [getD_map_prOf ns j hj'] at h2
    have h3 : ((prOf ns[j]).k == x.k) = true := List.find?_some (p := fun y : Pr => y.k == x.k) h2
    refine ⟨j, hj', by unfold findI; simpa using h1, sorted_key ordI hs (List.getElem_mem hj') hx (by simpa [prOf] using h3)⟩
/-- A NEW KEY. -/
theorem put_new {ns : List (Nd Int Int)} (n : Nd Int Int) (hk : ∀ x ∈ ns, x.k ≠ n.k) : freshL (ns.map prOf) n.k = true ∧ putL (ns.map prOf) (prOf n) = (insN ltI n ns).map prOf := by
  have e := findI_new hk
  constructor
  · unfold freshL
    rw [e]
    rfl
  · unfold putL
    rw [show (prOf n).k = n.k from rfl, e, if_neg (by omega), insL_plain, insR_nodes]
/-- A KEY PUT AGAIN. -/
theorem put_again {ns : List (Nd Int Int)} (hs : Sorted ltI ns) (inj : ∀ y ∈ ns, ∀ z ∈ ns, y.b = z.b → y = z) {x : Nd Int Int} (hx : x ∈ ns) (v h : Int) :
    freshL (ns.map prOf) x.k = false ∧ putL (ns.map prOf) ⟨x.k, v, h⟩ = (ns.map (setN x.b v)).map prOf := by
  obtain ⟨j, hj, e, ej⟩ := findI_there hs hx
  constructor
  · unfold freshL
    rw [e, decide_eq_true (by omega)]
    rfl
  · unfold putL
    show (if 0 ≤ findI (ns.map prOf) x.k then (ns.map prOf).set (findI (ns.map prOf) x.k).toNat { (ns.map prOf).getD (findI (ns.map prOf) x.k).toNat pr0 with v := v } else _) = _
    rw [e, if_pos (by omega), Int.toNat_natCast, getD_map_prOf ns j hj, ej]
    apply List.ext_getElem
    · simp
    · intro t h1 h2
      have ht : t < ns.length := by simpa using h2
      rw [List.getElem_set]
      simp only [List.getElem_map]
      by_cases et : j = t
      · subst et
        rw [if_pos rfl, ej]
        unfold setN
        rw [if_pos rfl]
        rfl
      · rw [if_neg et]
        unfold setN
        rw [if_neg]
        intro eb
        have e2 : ns[t] = x := inj _ (List.getElem_mem ht) _ hx eb
        have pw := List.pairwise_iff_getElem.1 hs
        rcases Nat.lt_or_gt_of_ne et with h3 | h3
        · exact ordI.ne (pw j t hj ht h3) (by rw [ej, e2])
        · exact ordI.ne (pw t j ht hj h3) (by rw [ej, e2])
/-- What is told of a key that is there, and of one that is not. -/
theorem height_there {ns : List (Nd Int Int)} (hs : Sorted ltI ns) {x : Nd Int Int} (hx : x ∈ ns) : 0 ≤ findI (ns.map prOf) x.k ∧ (ns.map prOf).getD (findI (ns.map prOf) x.k).toNat pr0 = prOf x := by
  obtain ⟨j, hj, e, ej⟩ := findI_there hs hx
  rw [e]
  refine ⟨by omega, ?_⟩
  rw [Int.toNat_natCast, getD_map_prOf ns j hj, ej]
end Go.Proofs.Ytdnaebbfbkdjoaa
