/-
  The walk of the statement BloomPlays, all ways; its argument opened.
-/
import Derived.Test.YtbglicndccdaiaaDoorBlPl
import Derived.Lib.SmallJoins
namespace Go.Proofs.YtbglicndccdaiaaDoor
set_option linter.unusedVariables false
set_option linter.unusedSimpArgs false
open Go.Joins Go.ChangeShapes Go.WideShapes Go.ChangeAt Go.RowKit Go.Deep

theorem filled_of {H : Type} {enc : TypeId × Value → H} {w : World} {base : Nat} {spare : Nat → Bool} {held : Bool} {r : Reach} {b0 : Nat} {v : Value} {d : DataW H} {p : List MemPlace}
    (hv : Value.okWide Tryd.prog w r b0 25 v) (h : DataW.Trod enc Tryd.prog w base spare held 25 v d p) :
    ∃ (k e : Int) (a : Option Addr) (cap : Nat) (l : List Tx) (qa : Option Addr) (qc : Nat) (q : List UInt8), v = .agg #[.int .i64 k, .int .i64 e, .slice a l.length cap, .slice qa q.length qc] ∧ (Lit.int .i64 k).wf = true ∧ (Lit.int .i64 e).wf = true ∧ l.length ≤ cap ∧ cap ≤ maxLen ∧ Texts w a l ∧ q.length ≤ qc ∧ qc ≤ maxLen ∧ Rd w qa q := by
  obtain ⟨v0, v1, v2, v3, y0, y1, y2, y3, n, rfl, _, _, h0, h1, h2, h3⟩ := open_agg4 (Tryd.underlying25) (by kernel_rfl) (by kernel_rfl) hv h
  obtain ⟨k, e0, _, wk⟩ := DataW.trod_int Tryd.underlying3 h0
  obtain ⟨e, e1, _, we⟩ := DataW.trod_int Tryd.underlying3 h1
  simp only [List.cons.injEq, and_true] at e0 e1
  subst e0 e1
  obtain ⟨a, cap, l, rfl, g1, g2, g3⟩ := texts_of h2
  obtain ⟨qa, qc, q, rfl, g4, g5, g6⟩ := bytes_of h3
  exact ⟨k, e, a, cap, l, qa, qc, q, rfl, wk, we, g1, g2, g3, g4, g5, g6⟩
set_option maxRecDepth 100000 in
set_option maxHeartbeats 2000000 in
theorem bloomPlays_no (W : World) (ht : Tab W) (k e : Int) (hk0 : -9223372036854775808 ≤ k) (hk1 : k ≤ 9223372036854775807) (he0 : -9223372036854775808 ≤ e) (he1 : e ≤ 9223372036854775807) (hno : k < 0 ∨ 65536 < k ∨ e < 1 ∨ 32 < e)
    (a : Option Addr) (cap : Nat) (l : List Tx) (hm : l.length ≤ maxLen) (hi : Texts W a l) (hsm : smallK l = true)
    (qa : Option Addr) (qn qc : Nat) (hqn : qn ≤ 500) :
    Calls Tryd.prog 3 #[.agg #[.int .i64 k, .int .i64 e, .slice a l.length cap, .slice qa qn qc]] W (Yes W) := by
  obtain ⟨n, hn⟩ : ∃ n, l.length = n := ⟨_, rfl⟩
  have hf0 := (Fr.refl No W).alloc (.cells #[.int .i64 k, .int .i64 e, .slice a n cap, .slice qa qn qc] 25)
  have A0 : At _ W.heap.size _ _ := At.new W 25 #[.int .i64 k, .int .i64 e, .slice a n cap, .slice qa qn qc]
  obtain ⟨W0, hW0⟩ : ∃ W0, W.alloc (.cells #[.int .i64 k, .int .i64 e, .slice a n cap, .slice qa qn qc] 25) = W0 := ⟨_, rfl⟩
  rw [hW0] at hf0 A0
  have CS := small_c a cap l W0 hm (hi.keep hf0)
  rw [hsm] at CS
  have CS := Lib.hid CS
  have CN := Lib.hid (fun w => new_no k e w hk0 hk1 he0 he1 hno)
  have CA := Lib.hid (awake_c W0 (ht.keep hf0))
  have HF0 := Lib.hid hf0
  rw [hn] at CS ⊢
  have e5 : decide (500 < (qn : Int)) = false := decide_eq_false (by omega)
  have c0 := A0.cell 0
  have c1 := A0.cell 1
  have c2 := A0.cell 2
  have c3 := A0.cell 3
  simp at c0 c1 c2 c3
  have hway : (decide (k < 0) = true) ∨ (decide (k < 0) = false ∧ decide (65536 < k) = true) ∨ (decide (k < 0) = false ∧ decide (65536 < k) = false ∧ decide (e < 1) = true) ∨ (decide (k < 0) = false ∧ decide (65536 < k) = false ∧ decide (e < 1) = false ∧ decide (32 < e) = true) := by
    simp only [decide_eq_true_eq, decide_eq_false_iff_not]
    omega
  clear hm hi hsm ht hn A0 hf0 hno
  rcases hway with d1 | ⟨d1, d2⟩ | ⟨d1, d2, d3⟩ | ⟨d1, d2, d3, d4⟩
  all_goals
    go_enter Tryd.func3, Tryd.ntmps3
    go_wp2_with fail
    refine (show Calls _ _ _ _ _ from CS.out).mono ?_
    rintro e w1 ⟨rfl, rfl⟩
    go_wp2_with fail
    refine (CN.out _).mono ?_
    rintro e w1 ⟨rfl, rfl⟩
    go_wp2_with fail
    refine (show Calls _ _ _ _ _ from CA.out).mono ?_
    rintro e w5 ⟨rfl, hf5⟩
    go_wp2_with fail
    go_ret
    exact ⟨rfl, HF0.out.trans hf5⟩
set_option maxRecDepth 100000 in
set_option maxHeartbeats 2000000 in
theorem bloomPlays_big (W : World) (ht : Tab W) (k e : Int)
    (a : Option Addr) (cap : Nat) (l : List Tx) (hm : l.length ≤ maxLen) (hi : Texts W a l)
    (qa : Option Addr) (qn qc : Nat) (hno : smallK l = false ∨ (smallK l = true ∧ 500 < qn)) :
    Calls Tryd.prog 3 #[.agg #[.int .i64 k, .int .i64 e, .slice a l.length cap, .slice qa qn qc]] W (Yes W) := by
  obtain ⟨n, hn⟩ : ∃ n, l.length = n := ⟨_, rfl⟩
  have hf0 := (Fr.refl No W).alloc (.cells #[.int .i64 k, .int .i64 e, .slice a n cap, .slice qa qn qc] 25)
  have A0 : At _ W.heap.size _ _ := At.new W 25 #[.int .i64 k, .int .i64 e, .slice a n cap, .slice qa qn qc]
  obtain ⟨W0, hW0⟩ : ∃ W0, W.alloc (.cells #[.int .i64 k, .int .i64 e, .slice a n cap, .slice qa qn qc] 25) = W0 := ⟨_, rfl⟩
  rw [hW0] at hf0 A0
  have CS := small_c a cap l W0 hm (hi.keep hf0)
  have CA := Lib.hid (awake_c W0 (ht.keep hf0))
  have HF0 := Lib.hid hf0
  have c0 := A0.cell 0
  have c1 := A0.cell 1
  have c2 := A0.cell 2
  have c3 := A0.cell 3
  simp at c0 c1 c2 c3
  rw [hn] at CS ⊢
  clear hm hi ht hn A0 hf0
  rcases hno with hs | ⟨hs, hq⟩
  · rw [hs] at CS
    have CS := Lib.hid CS
    clear hs
    go_enter Tryd.func3, Tryd.ntmps3
    go_wp2_with fail
    refine (show Calls _ _ _ _ _ from CS.out).mono ?_
    rintro e w1 ⟨rfl, rfl⟩
    go_wp2_with fail
    refine (show Calls _ _ _ _ _ from CA.out).mono ?_
    rintro e w5 ⟨rfl, hf5⟩
    go_wp2_with fail
    go_ret
    exact ⟨rfl, HF0.out.trans hf5⟩
  · rw [hs] at CS
    have CS := Lib.hid CS
    have d5 : decide (500 < (qn : Int)) = true := decide_eq_true (by omega)
    clear hs
    go_enter Tryd.func3, Tryd.ntmps3
    go_wp2_with fail
    refine (show Calls _ _ _ _ _ from CS.out).mono ?_
    rintro e w1 ⟨rfl, rfl⟩
    go_wp2_with fail
    refine (show Calls _ _ _ _ _ from CA.out).mono ?_
    rintro e w5 ⟨rfl, hf5⟩
    go_wp2_with fail
    go_ret
    exact ⟨rfl, HF0.out.trans hf5⟩
theorem bloomPlays_walk (W : World) (ht : Tab W) (k e : Int) (a : Option Addr) (cap : Nat) (l : List Tx) (qa : Option Addr) (qc : Nat) (q : List UInt8) (wk : (Lit.int .i64 k).wf = true) (we : (Lit.int .i64 e).wf = true) (hc : l.length ≤ cap) (hm : cap ≤ maxLen) (hi : Texts W a l) (hqc : q.length ≤ qc) (hqm : qc ≤ maxLen) (hqr : Rd W qa q) :
    Calls Tryd.prog 3 #[.agg #[.int .i64 k, .int .i64 e, .slice a l.length cap, .slice qa q.length qc]] W fun e W' => e = .returned (.bool true) ∧ Below W.heap.size W W' := by
  obtain ⟨k0, k1⟩ := wf64 wk
  obtain ⟨e0, e1⟩ := wf64 we
  refine Calls.mono (R := Yes W) ?_ fun e w' h => h.post
  have hml : l.length ≤ maxLen := Nat.le_trans hc hm
  cases hsm : smallK l with
  | false => exact bloomPlays_big W ht k e a cap l hml hi qa q.length qc (.inl hsm)
  | true =>
    by_cases hq : 500 < q.length
    · exact bloomPlays_big W ht k e a cap l hml hi qa q.length qc (.inr ⟨hsm, hq⟩)
    · by_cases hin : 0 ≤ k ∧ k ≤ 65536 ∧ 1 ≤ e ∧ e ≤ 32
      · obtain ⟨kn, rfl⟩ := Int.eq_ofNat_of_zero_le hin.1
        obtain ⟨en, rfl⟩ := Int.eq_ofNat_of_zero_le (show 0 ≤ e by omega)
        exact bloomPlays_in W ht kn en (by omega) (by omega) (by omega) a cap l hml hi hsm qa q.length qc q rfl (by omega) hqr
      · exact bloomPlays_no W ht k e k0 k1 e0 e1 (by omega) a cap l hml hi hsm qa q.length qc (by omega)
end Go.Proofs.YtbglicndccdaiaaDoor
