/-
  Layer 12: contract of the document's word; two rows of the call's own beside each other (bytes, numbers).
-/
import Derived.Test.YtiacdakaolghmaaBkB
import Derived.Test.YtiacdakaolghmaaRowM
import Derived.Test.YtiacdakaolghmaaMemI
namespace Go.Proofs.Ytiacdakaolghmaa
set_option linter.unusedVariables false
open Go.RowKit

theorem word4_cells (n : Nat) (h : n < 4294967296) : ((word4 n).map byt).toArray = #[Value.int .u8 ((n : Int) / 16777216), Value.int .u8 ((n : Int) / 65536 % 256), Value.int .u8 ((n : Int) / 256 % 256), Value.int .u8 ((n : Int) % 256)] := by
  have e : ∀ (x : Nat) (y : Int), x < 256 → (x : Int) = y → byt (UInt8.ofNat x) = .int .u8 y := fun x y hx hy => by
    show Value.int .u8 _ = _
    rw [toNat_ofNat hx, hy]
  unfold word4
  simp only [List.map_cons, List.map_nil]
  rw [e (n / 16777216) ((n : Int) / 16777216) (by omega) (by omega), e (n / 65536 % 256) ((n : Int) / 65536 % 256) (by omega) (by omega), e (n / 256 % 256) ((n : Int) / 256 % 256) (by omega) (by omega), e (n % 256) ((n : Int) % 256) (by omega) (by omega)]
set_option maxHeartbeats 800000 in
theorem refWord_c (n : Nat) (h : n < 4294967296) (w : World) : Calls Try.prog 32 #[.int .i64 (n : Int)] w (NewRow (word4 n) w) := by
  have E := Lib.hid (word4_cells n h)
  have R := Lib.hid (row_new w (word4 n) (by rw [word4_len]; simp [maxLen]))
  have h2 : (n : Int) / 16777216 % 256 = (n : Int) / 16777216 := by omega
  have F := Lib.hid ((Fr.refl No w).alloc (.cells ((word4 n).map byt).toArray 5))
  go_enter Try.func32, Try.ntmps32
  go_wp2_with fail
  go_ret
  have R := R.out
  have F := F.out
  rw [E.out] at R F
  exact ⟨_, rfl, R, F⟩

/-! ### Two rows beside each other. -/
def OwnB (v : Value) : Nat → Prop := fun k => v.ownBlock = some k
structure BW (w wr : World) (vo vs : Value) (p : List UInt8) (q : List Int) : Prop where
  out : Row wr (OwnB vo) vo p
  starts : RowI wr (OwnB vs) vs q
  newo : ∀ k, vo.ownBlock = some k → w.heap.size ≤ k
  news : ∀ k, vs.ownBlock = some k → w.heap.size ≤ k
  apart : ∀ k, vo.ownBlock = some k → vs.ownBlock = some k → False
  fr : Fr No w wr
theorem BW.start (w : World) : BW w w (.slice none 0 0) (.slice none 0 0) [] [] :=
  ⟨Row.nil _ _, RowI.nil _ _, fun k h => by simp [Value.ownBlock] at h, fun k h => by simp [Value.ownBlock] at h, fun k h => by simp [Value.ownBlock] at h, Fr.refl _ _⟩
theorem BW.keep {w wr w' : World} {vo vs : Value} {p : List UInt8} {q : List Int} (h : BW w wr vo vs p q) (f : Fr No wr w') : BW w w' vo vs p q :=
  ⟨h.out.keep f fun _ _ h => h, h.starts.keep f fun _ _ h => h, h.newo, h.news, h.apart, h.fr.trans f⟩
theorem BW.ltS {w wr : World} {vo vs : Value} {p : List UInt8} {q : List Int} (h : BW w wr vo vs p q) (k : Nat) (hk : vs.ownBlock = some k) : k < wr.heap.size := (h.starts.1.lt k hk).2
theorem BW.ltO {w wr : World} {vo vs : Value} {p : List UInt8} {q : List Int} (h : BW w wr vo vs p q) (k : Nat) (hk : vo.ownBlock = some k) : k < wr.heap.size := (h.out.1.lt k hk).2
theorem BW.more {w wr : World} {vo vs : Value} {p : List UInt8} {q : List Int} (h : BW w wr vo vs p q) (a : Option Addr) (m c : Nat) (news : List UInt8) (hm : news.length = m) (hr : Rd wr a news) (hb : p.length + m ≤ 140737488355328) :
    ∃ v' w', (Builtin.append_ #[25, 25] 25 #[vo, .slice a m c]).run Try.prog wr = .ok v' w' ∧ BW w w' v' vs (p ++ news) q := by
  obtain ⟨v', w', h1, h2, h3⟩ := h.out.append a m c news hm hr hb
  have hs := h.fr.size
  refine ⟨v', w', h1, ⟨⟨h2.1, fun _ hk => hk⟩, h.starts.keep h3 fun k h4 h5 => h.apart k h5 h4, fun k hk => ?_, h.news, fun k h4 h5 => ?_, h.fr.then_ h3 fun k hk h4 => by have := h.newo k h4; omega⟩⟩
  · rcases h2.2 k hk with h4 | h4
    · exact h.newo k h4
    · omega
  · rcases h2.2 k h4 with h6 | h6
    · exact h.apart k h6 h5
    · have := h.ltS k h5
      omega
theorem BW.more1 {w wr : World} {vo vs : Value} {p : List UInt8} {q : List Int} (h : BW w wr vo vs p q) (c : UInt8) (z : Int) (hz : (c.toNat : Int) = z) (hb : p.length + 1 ≤ 140737488355328) :
    ∃ v' w', (Builtin.append_ #[25, 25] 25 #[vo, .slice (some ⟨wr.heap.size, 0, none⟩) 1 1]).run Try.prog (wr.alloc (.cells #[.int .u8 z] 5)) = .ok v' w' ∧ BW w w' v' vs (p ++ [c]) q := by
  subst hz
  exact (h.keep ((Fr.refl No wr).alloc _)).more _ 1 1 [c] rfl (Rd.one wr _ c) hb
theorem BW.push {w wr : World} {vo vs : Value} {p : List UInt8} {q : List Int} (h : BW w wr vo vs p q) (x : Int) (hb : q.length < 1000000) :
    ∃ v' w', (Builtin.append_ #[58, 58] 58 #[vs, .slice (some ⟨wr.heap.size, 0, none⟩) 1 1]).run Try.prog (wr.alloc (.cells #[.int .i64 x] 3)) = .ok v' w' ∧ BW w w' vo v' p (q ++ [x]) := by
  obtain ⟨v', w', h1, h2, h3⟩ := h.starts.push (fun k hk => h.ltS k hk) x hb
  have hs := h.fr.size
  refine ⟨v', w', h1, ⟨h.out.keep h3 fun k h4 h5 => h.apart k h4 h5, ⟨h2.1, fun _ hk => hk⟩, h.newo, fun k hk => ?_, fun k h4 h5 => ?_, h.fr.then_ h3 fun k hk h4 => by have := h.news k h4; omega⟩⟩
  · rcases h2.2 k hk with h4 | h4
    · exact h.news k h4
    · omega
  · rcases h2.2 k h5 with h6 | h6
    · exact h.apart k h4 h6
    · have := h.ltO k h4
      omega
theorem BW.done {w wr : World} {vo vs : Value} {p : List UInt8} {q : List Int} (h : BW w wr vo vs p q) : NewRow p w (.returned vo) wr :=
  ⟨vo, rfl, ⟨h.out.1, fun k hk => .inr ⟨h.newo k hk, h.ltO k hk⟩⟩, h.fr⟩
end Go.Proofs.Ytiacdakaolghmaa
