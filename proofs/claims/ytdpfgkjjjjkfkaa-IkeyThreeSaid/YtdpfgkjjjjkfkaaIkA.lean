/-
  Contracts of layer 3's small functions: small, Sees, Seek, Check; the document's Right; ref.
-/
import Derived.Test.YtdpfgkjjjjkfkaaSame
import Derived.Test.YtdpfgkjjjjkfkaaIkN
import Derived.WalkLawsBesides
import Derived.Deep.QuietTactic
import Derived.BigQuiet
import Derived.Lib.Bytealg
import Derived.Lib.BytesEntry
namespace Go.Proofs.Ytdpfgkjjjjkfkaa
set_option linter.unusedVariables false
open Go.RowKit

/-- A plain value comes back, and nothing that was there has turned. -/
def PlainRet (v : Value) (w : World) (e : Ending) (w' : World) : Prop := e = .returned v ∧ Fr No w w'

theorem small_c (s : ByteArray) (q k : Int) (w : World) :
    Calls Try.prog 10 #[.agg #[.string s, .int .i64 q, .int .i64 k]] w (PlainRet (.bool (decide ((s.size : Int) ≤ 300))) w) := by
  go_enter Try.func10, Try.ntmps10
  go_wp2_with fail
  go_ret
  exact ⟨rfl, (Fr.refl _ _).alloc _⟩
theorem sees_c (s : ByteArray) (q k at_ : Int) (w : World) :
    Calls Try.prog 23 #[.agg #[.string s, .int .i64 q, .int .i64 k], .int .i64 at_] w (PlainRet (.bool (decide (q ≤ at_))) w) := by
  go_enter Try.func23, Try.ntmps23
  go_wp2_with fail
  go_ret
  exact ⟨rfl, (Fr.refl _ _).alloc _⟩
theorem seek_c (s : ByteArray) (q : Int) (w : World) :
    Calls Try.prog 22 #[.string s, .int .i64 q] w (PlainRet (.agg #[.string s, .int .i64 q, .int .i64 3]) w) := by
  go_enter Try.func22, Try.ntmps22
  go_wp2_with fail
  refine bodyPost_ret (v := .agg #[.string s, .int .i64 q, .int .i64 3]) (by simp [results, Try.results22, go_sem]) rfl ?_
  exact ⟨rfl, (Fr.refl _ _).alloc _⟩
theorem ref_c (s : ByteArray) (q k : Int) (w : World) :
    Calls Try.prog 14 #[.agg #[.string s, .int .i64 q, .int .i64 k]] w (PlainRet (.agg #[.string s, .int .i64 q, .int .i64 k]) w) := by
  go_enter Try.func14, Try.ntmps14
  go_wp2_with fail
  refine bodyPost_ret (v := .agg #[.string s, .int .i64 q, .int .i64 k]) (by simp [results, Try.results14, go_sem]) rfl ?_
  exact ⟨rfl, ((Fr.refl _ _).alloc _).alloc _⟩
theorem right_yes (s : ByteArray) (q k : Int) (w : World) (h : Rt s.size q k) :
    Calls Try.prog 13 #[.agg #[.string s, .int .i64 q, .int .i64 k]] w (PlainRet (.bool true) w) := by
  obtain ⟨h1, h2, h3, h4, h5, h6⟩ := h
  go_enter Try.func13, Try.ntmps13
  go_wp2_with fail
  go_ret
  exact ⟨by simp [*], (Fr.refl _ _).alloc _⟩
theorem right_no (s : ByteArray) (q k : Int) (w : World) (h : ¬ Rt s.size q k) :
    Calls Try.prog 13 #[.agg #[.string s, .int .i64 q, .int .i64 k]] w (PlainRet (.bool false) w) := by
  unfold Rt at h
  have h' : ¬ 1 ≤ (s.size : Int) ∨ (1 ≤ (s.size : Int) ∧ ¬ (s.size : Int) ≤ 64) ∨ (1 ≤ (s.size : Int) ∧ (s.size : Int) ≤ 64 ∧ ¬ 0 ≤ q) ∨ (1 ≤ (s.size : Int) ∧ (s.size : Int) ≤ 64 ∧ 0 ≤ q ∧ ¬ q ≤ 1099511627776) ∨
    (1 ≤ (s.size : Int) ∧ (s.size : Int) ≤ 64 ∧ 0 ≤ q ∧ q ≤ 1099511627776 ∧ ¬ 1 ≤ k) ∨ (1 ≤ (s.size : Int) ∧ (s.size : Int) ≤ 64 ∧ 0 ≤ q ∧ q ≤ 1099511627776 ∧ 1 ≤ k ∧ ¬ k ≤ 3) := by omega
  clear h
  rcases h' with h1 | ⟨h1, h2⟩ | ⟨h1, h2, h3⟩ | ⟨h1, h2, h3, h4⟩ | ⟨h1, h2, h3, h4, h5⟩ | ⟨h1, h2, h3, h4, h5, h6⟩
  all_goals
    go_enter Try.func13, Try.ntmps13
    go_wp2_with fail
    go_ret
    exact ⟨by simp [*], (Fr.refl _ _).alloc _⟩
theorem check_yes (s : ByteArray) (q k : Int) (w : World) (h : Rt s.size q k) :
    Calls Try.prog 15 #[.agg #[.string s, .int .i64 q, .int .i64 k]] w (PlainRet (.int .i64 0) w) := by
  obtain ⟨h1, h2, h3, h4, h5, h6⟩ := h
  go_enter Try.func15, Try.ntmps15
  go_wp2_with fail
  go_ret
  exact ⟨rfl, (Fr.refl _ _).alloc _⟩
theorem check_no (s : ByteArray) (q k : Int) (w : World) (h : ¬ Rt s.size q k) :
    Calls Try.prog 15 #[.agg #[.string s, .int .i64 q, .int .i64 k]] w (PlainRet (.int .i64 30) w) := by
  unfold Rt at h
  have h' : ¬ 1 ≤ (s.size : Int) ∨ (1 ≤ (s.size : Int) ∧ ¬ (s.size : Int) ≤ 64) ∨ (1 ≤ (s.size : Int) ∧ (s.size : Int) ≤ 64 ∧ ¬ 0 ≤ q) ∨ (1 ≤ (s.size : Int) ∧ (s.size : Int) ≤ 64 ∧ 0 ≤ q ∧ ¬ q ≤ 1099511627776) ∨
    (1 ≤ (s.size : Int) ∧ (s.size : Int) ≤ 64 ∧ 0 ≤ q ∧ q ≤ 1099511627776 ∧ ¬ 1 ≤ k) ∨ (1 ≤ (s.size : Int) ∧ (s.size : Int) ≤ 64 ∧ 0 ≤ q ∧ q ≤ 1099511627776 ∧ 1 ≤ k ∧ ¬ k ≤ 3) := by omega
  clear h
  rcases h' with h1 | ⟨h1, h2⟩ | ⟨h1, h2, h3⟩ | ⟨h1, h2, h3, h4⟩ | ⟨h1, h2, h3, h4, h5⟩ | ⟨h1, h2, h3, h4, h5, h6⟩
  all_goals
    go_enter Try.func15, Try.ntmps15
    go_wp2_with fail
    go_ret
    exact ⟨rfl, (Fr.refl _ _).alloc _⟩

/-! ### Comparing. -/
theorem isNaN_c (x : Int) (w : World) : Calls Try.prog 35 #[.int .i64 x] w fun e w' => e = .returned (.bool false) ∧ w = w' := by
  go_enter Try.func35, Try.ntmps35
  go_wp2_with fail
  go_ret
  exact ⟨by simp, rfl⟩
theorem compareInt_c (x y : Int) (w : World) : Calls Try.prog 32 #[.int .i64 x, .int .i64 y] w fun e w' => e = .returned (.int .i64 (cmpI x y)) ∧ w = w' := by
  have h : (x < y ∧ cmpI x y = -1) ∨ (¬ x < y ∧ y < x ∧ cmpI x y = 1) ∨ (¬ x < y ∧ ¬ y < x ∧ cmpI x y = 0) := by
    unfold cmpI
    by_cases h1 : x < y
    · exact .inl ⟨h1, if_pos h1⟩
    · by_cases h2 : y < x
      · exact .inr (.inl ⟨h1, h2, by rw [if_neg h1, if_pos h2]⟩)
      · exact .inr (.inr ⟨h1, h2, by rw [if_neg h1, if_neg h2]⟩)
  rcases h with ⟨h1, h0⟩ | ⟨h1, h2, h0⟩ | ⟨h1, h2, h0⟩
  all_goals
    rw [h0]
    clear h0
    go_enter Try.func32, Try.ntmps32
    go_wp2_with (go_at_call 35; refine (isNaN_c _ _).mono ?_; rintro e w' ⟨rfl, rfl⟩)
    go_ret
    exact ⟨rfl, rfl⟩
theorem compareString_c (a b : ByteArray) (w : World) :
    Calls Try.prog 34 #[.string a, .string b] w fun e w' => e = .returned (.int .i64 (Lib.compareBytes a.data.toList b.data.toList)) ∧ w = w' := by
  go_enter Try.func34, Try.ntmps34
  go_wp2_with fail
  rw [run_callFunc_extern Try.func37 (by kernel_rfl) (by kernel_rfl) (by kernel_rfl) (e := Extern.BytealgCompare.compare) (by kernel_rfl), Lib.run_compareString]
  simp only [Result.andThen]
  rw [Oper.upon_value]
  go_wp2_with fail
  go_ret
  exact ⟨rfl, rfl⟩
theorem stringsCompare_c (a b : ByteArray) (w : World) :
    Calls Try.prog 31 #[.string a, .string b] w fun e w' => e = .returned (.int .i64 (Lib.compareBytes a.data.toList b.data.toList)) ∧ w = w' := by
  go_enter Try.func31, Try.ntmps31
  go_wp2_with (go_at_call 34; refine (compareString_c _ _ _).mono ?_; rintro e w' ⟨rfl, rfl⟩)
  go_ret
  exact ⟨rfl, rfl⟩
/-- Bytes of a slice, as the comparison reads them. -/
theorem run_bytesOf_rd {P : Program} (w : World) (a : Option Addr) (len cap : Nat) (l : List UInt8) (hl : l.length = len) (hr : Rd w a l) : (Extern.Bytes.bytesOf (.slice a len cap)).run P w = .ok (strOf l) w := by
  subst hl
  by_cases h0 : l = []
  · subst h0
    cases a with
    | none => rfl
    | some x => simp [Extern.Bytes.bytesOf, Extern.Bytes.loadBytes, strOf]; rfl
  · obtain ⟨b, o, rfl, hc⟩ := hr (List.length_pos_iff.mpr h0)
    have h := Lib.run_loadBytesX (P := P) w (l.map fun x => (x.toNat : Int)) ⟨b, o, none⟩ .empty (fun j x hj => by
      have e : (⟨b, o, none⟩ : Addr).add j = ⟨b, o + j, none⟩ := by unfold Addr.add; split <;> simp_all
      have hj' := hj
      rw [List.getElem?_map] at hj'
      obtain ⟨y, hy, rfl⟩ := Option.map_eq_some_iff.1 hj'
      have hjl : j < l.length := (List.getElem?_eq_some_iff.1 hy).1
      rw [e, hc j hjl, List.getD_eq_getElem?_getD, hy]
      rfl)
    rw [List.length_map] at h
    simp only [Extern.Bytes.bytesOf]
    rw [h]
    congr 1
    apply ByteArray.ext
    simp [strOf, Lib.bytesOf]
    apply List.ext_getElem?
    intro i
    rw [List.getElem?_map]
    cases l[i]? <;> simp
theorem bytesCompare_c (a a' : Option Addr) (len cap len' cap' : Nat) (l l' : List UInt8) (w : World) (hl : l.length = len) (hl' : l'.length = len') (hr : Rd w a l) (hr' : Rd w a' l') :
    Calls Try.prog 33 #[.slice a len cap, .slice a' len' cap'] w fun e w' => e = .returned (.int .i64 (Lib.compareBytes l l')) ∧ w = w' := by
  have hrun : (Extern.BytealgCompare.compare #[.slice a len cap, .slice a' len' cap']).run Try.prog w = .ok (.int .i64 (Lib.compareBytes l l')) w := by
    change Sem.run _ (do pure (goInt (Extern.BytealgCompare.cmp (← Extern.Bytes.bytesOf (.slice a len cap)) (← Extern.Bytes.bytesOf (.slice a' len' cap'))))) w = _
    simp only [Sem.run_bind, run_bytesOf_rd w a len cap l hl hr, run_bytesOf_rd w a' len' cap' l' hl' hr', Sem.run_pure, Result.andThen]
    rw [Lib.cmp_eq]
    rfl
  clear hl hl' hr hr'
  go_enter Try.func33, Try.ntmps33
  go_wp2_with fail
  rw [run_callFunc_extern Try.func36 (by kernel_rfl) (by kernel_rfl) (by kernel_rfl) (e := Extern.BytealgCompare.compare) (by kernel_rfl), hrun]
  simp only [Result.andThen]
  rw [Oper.upon_value]
  go_wp2_with fail
  go_ret
  exact ⟨rfl, rfl⟩
theorem less_c (a a' : Option Addr) (len cap len' cap' : Nat) (l l' : List UInt8) (w : World) (hl : l.length = len) (hl' : l'.length = len') (hr : Rd w a l) (hr' : Rd w a' l') :
    Calls Try.prog 21 #[.slice a len cap, .slice a' len' cap'] w fun e w' => e = .returned (.bool (decide (Lib.compareBytes l l' < 0))) ∧ w = w' := by
  have C := Lib.hid (bytesCompare_c a a' len cap len' cap' l l' w hl hl' hr hr')
  clear hl hl' hr hr'
  go_enter Try.func21, Try.ntmps21
  go_wp2_with (go_at_call 33; refine C.out.mono ?_; rintro e w' ⟨rfl, rfl⟩)
  go_ret
  exact ⟨rfl, rfl⟩
set_option maxRecDepth 20000 in
theorem or_c (b : Nat) (t : TypeId) (x y z : Int) (w : World) (h : At w b t #[.int .i64 x, .int .i64 y, .int .i64 z]) :
    Calls Try.prog 30 #[.slice (some ⟨b, 0, none⟩) 3 3] w fun e w' => e = .returned (.int .i64 (orI x y z)) ∧ w = w' := by
  have c0 : w.cell? ⟨b, 0, none⟩ = some (.int .i64 x) := At.cell h 0
  have c1 : w.cell? ⟨b, 1, none⟩ = some (.int .i64 y) := At.cell h 1
  have c2 : w.cell? ⟨b, 2, none⟩ = some (.int .i64 z) := At.cell h 2
  clear h
  have hc : (¬ x = 0 ∧ orI x y z = x) ∨ (x = 0 ∧ ¬ y = 0 ∧ orI x y z = y) ∨ (x = 0 ∧ y = 0 ∧ ¬ z = 0 ∧ orI x y z = z) ∨ (x = 0 ∧ y = 0 ∧ z = 0 ∧ orI x y z = 0) := by
    unfold orI
    by_cases hx : x = 0
    · by_cases hy : y = 0
      · by_cases hz : z = 0
        · exact .inr (.inr (.inr ⟨hx, hy, hz, by simp [hx, hy, hz]⟩))
        · exact .inr (.inr (.inl ⟨hx, hy, hz, by simp [hx, hy]⟩))
      · exact .inr (.inl ⟨hx, hy, by simp [hx, hy]⟩)
    · exact .inl ⟨hx, by simp [hx]⟩
  rcases hc with ⟨h1, h0⟩ | ⟨h1, h2, h0⟩ | ⟨h1, h2, h3, h0⟩ | ⟨h1, h2, h3, h0⟩
  all_goals
    rw [h0]
    clear h0
    go_enter Try.func30, Try.ntmps30
    go_wp2_with fail
    refine wp_loop_rounds 4 ?_
    rw [rounds_succ]
    go_wp2_with fail
    try rw [rounds_succ]
    try go_wp2_with fail
    try rw [rounds_succ]
    try go_wp2_with fail
    try rw [rounds_succ]
    try go_wp2_with fail
    go_ret
    exact ⟨rfl, rfl⟩
end Go.Proofs.Ytdpfgkjjjjkfkaa
