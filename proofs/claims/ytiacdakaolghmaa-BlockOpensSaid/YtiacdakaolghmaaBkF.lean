/-
  Layer 12: plain mathematics: where a block's own keys stand; what Build and Open answer, together.
-/
import Derived.Test.YtiacdakaolghmaaBkX
import Derived.Test.YtiacdakaolghmaaBkM
namespace Go.Proofs.Ytiacdakaolghmaa
set_option linter.unusedVariables false
open Go.RowKit

theorem cmpB_nil_le (z : List UInt8) : cmpB [] z ≤ 0 := by cases z <;> simp [Lib.compareBytes]
theorem cmpB_after : ∀ (a z : List UInt8), cmpB a z < 0 → cmpB (a ++ [0]) z ≤ 0
  | [], [], h => by rw [cmpB_self] at h; omega
  | [], y :: z, h => by
    show cmpB (0 :: []) (y :: z) ≤ 0
    rcases u8_three 0 y with h1 | h1 | h1
    · rw [cmpB_lt h1]; omega
    · have : y.toNat < 0 := UInt8.lt_iff_toNat_lt.1 h1
      omega
    · subst h1
      rw [cmpB_same]
      exact cmpB_nil_le z
  | x :: a, [], h => by simp [Lib.compareBytes] at h
  | x :: a, y :: z, h => by
    show cmpB (x :: (a ++ [0])) (y :: z) ≤ 0
    rcases u8_three x y with h1 | h1 | h1
    · rw [cmpB_lt h1]; omega
    · rw [cmpB_gt h1] at h; omega
    · subst h1
      rw [cmpB_same] at h ⊢
      exact cmpB_after a z h
theorem cmpB_self_after (a : List UInt8) : cmpB a (a ++ [0]) < 0 := by
  have := cmpB_append a [] [0]
  rw [List.append_nil] at this
  rw [this]
  decide
theorem cmpB_lt_trans {a b c : List UInt8} (h1 : cmpB a b < 0) (h2 : cmpB b c < 0) : cmpB a c < 0 := by
  obtain ⟨h3, h4⟩ := cmpB_trans a b c (by omega) (by omega)
  rcases Int.lt_or_eq_of_le h3 with h | h
  · exact h
  · have := (h4 h).1
    omega
theorem ord_lt {l : List Pr} (h : ordP l) : ∀ (d i : Nat), i + (d + 1) < l.length → cmpP l i (i + (d + 1)) < 0
  | 0, i, hi => h (i + 1) (by omega) hi
  | d + 1, i, hi => by
    have h1 := ord_lt h d i (by omega)
    have h2 := h (i + (d + 1) + 1) (by omega) hi
    exact cmpB_lt_trans h1 h2
theorem ord_lt' {l : List Pr} (h : ordP l) {i j : Nat} (hij : i < j) (hj : j < l.length) : cmpP l i j < 0 := by
  obtain ⟨d, rfl⟩ : ∃ d, j = i + (d + 1) := ⟨j - i - 1, by omega⟩
  exact ord_lt h d i hj
theorem find_own {l : List Pr} (h : ordP l) {i : Nat} (hi : i < l.length) : findP l (l.getD i pr0).key = i := by
  refine findP_only (by omega) (fun j hj => ?_) fun _ => ?_
  · have := ord_lt' h hj hi
    unfold cmpP at this
    unfold notBelow
    omega
  · unfold notBelow
    rw [cmpB_self]
    omega
def zero1 : ByteArray := ⟨#[0]⟩
theorem bs_append (s t : ByteArray) : bs (s ++ t) = bs s ++ bs t := by
  unfold bs
  rw [ByteArray.data_append, Array.toList_append]
theorem find_after {l : List Pr} (h : ordP l) {i : Nat} (hi : i < l.length) : findP l ((l.getD i pr0).key ++ zero1) = i + 1 := by
  have hb : bs ((l.getD i pr0).key ++ zero1) = bs (l.getD i pr0).key ++ [0] := bs_append _ _
  refine findP_only (by omega) (fun j hj => ?_) fun h2 => ?_
  · unfold notBelow
    rw [hb]
    have h3 := cmpB_self_after (bs (l.getD i pr0).key)
    rcases Nat.lt_or_ge j i with h4 | h4
    · have h5 := ord_lt' h h4 hi
      have := cmpB_lt_trans h5 h3
      omega
    · obtain rfl : j = i := by omega
      omega
  · unfold notBelow
    rw [hb]
    have h5 := ord_lt' h (Nat.lt_add_one i) h2
    have h6 := cmpB_after _ _ h5
    have h7 := cmpB_neg (bs (l.getD (i + 1) pr0).key) (bs (l.getD i pr0).key ++ [0])
    omega

/-- Build, where it tells bytes. -/
theorem build_ok {X : World → Nat → (Nat → Prop) → List Pr → Nat → Prop} (H : BlockOK X) (w : World) (S : Nat → Prop) (a : Option Addr) (n cap : Nat) (l : List Pr) (e : Nat) (hn : l.length = n) (h1 : n ≤ cap) (h2 : cap ≤ maxLen) (h3 : n ≤ 80) (h4 : Low 300 l) (h5 : Prs w S a l)
    (he : 1 ≤ e) (he' : e ≤ 64) (ho : ordP l) :
    Calls Try.prog 11 #[.slice a n cap, .int .i64 (e : Int)] w fun en w' => ∃ v, en = .returned (.tuple #[v, .int .i64 0]) ∧ RowQ w' (Gr No w w') v (blockB e l) ∧ Fr No w w' := by
  have he0 : buildE l (e : Int) = 0 := by
    unfold buildE
    rw [if_neg (by omega), if_pos ho]
  have q := H.build w S a n cap l (e : Int) hn h1 h2 h3 h4 h5 (by simp [Lit.wf, IntKind.min, IntKind.max, IntKind.signed, IntKind.bits]; omega)
  refine q.mono ?_
  rintro en w' ⟨v, rfl, hr, hf⟩
  unfold buildB at hr
  rw [he0, if_pos rfl, Int.toNat_natCast] at hr
  rw [he0]
  exact ⟨v, rfl, hr, hf⟩
/-- Open of what Build tells. -/
theorem open_ok {X : World → Nat → (Nat → Prop) → List Pr → Nat → Prop} (H : BlockOK X) (w : World) (a : Option Addr) (n cap : Nat) (l : List Pr) (e : Nat) (hn : (blockB e l).length = n) (h1 : n ≤ cap) (h2 : cap ≤ maxLen) (h3 : l.length ≤ 80) (h4 : Low 300 l) (h5 : Rd w a (blockB e l))
    (he : 1 ≤ e) (he' : e ≤ 64) (ho : ordP l) :
    Calls Try.prog 16 #[.slice a n cap] w fun en w' => ∃ x F, en = .returned (.tuple #[.pointer (some ⟨x, 0, none⟩), .int .i64 0]) ∧ X w' x F l e ∧ (∀ k, F k → w.heap.size ≤ k) ∧ Fr No w w' := by
  have hs := blockB_small (e := e) h4 h3
  refine (H.open_ w a n cap (blockB e l) hn h1 h2 (by omega) h5).mono ?_
  rintro en w' (⟨l', e', x, F, g1, g2, g3, g4, rfl, g5, g6, g7⟩ | ⟨g1, _⟩)
  · obtain ⟨rfl, rfl⟩ := blockB_inj he' g2 (by omega) g4
    exact ⟨x, F, rfl, g5, g6, g7⟩
  · exact absurd rfl (g1 l e he he' ho)
end Go.Proofs.Ytiacdakaolghmaa
