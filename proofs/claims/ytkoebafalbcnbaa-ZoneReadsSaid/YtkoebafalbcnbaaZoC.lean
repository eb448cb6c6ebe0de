/-
  Layer 7: what the laws ask of the program's device ('ZoneOK': shown elsewhere); the laws' bound on calls.
-/
import Derived.Test.YtkoebafalbcnbaaZoA
import Derived.Test.YtkoebafalbcnbaaZoB
import Derived.Test.YtkoebafalbcnbaaSame
import Derived.Test.YtkoebafalbcnbaaHeld
import Derived.BigQuiet
import Derived.Lib.SlBytesConst
namespace Go.Proofs.Ytkoebafalbcnbaa
set_option linter.unusedVariables false
open Go.RowKit

/-- Behind a call that works on a device: it has blocks F, of which it turns some, and new ones. -/
def MoveZ (D : World → Nat → (Nat → Prop) → Dev → Prop) (d : Nat) (F : Nat → Prop) (m : Dev) (v : Value) (w : World) (e : Ending) (w' : World) : Prop :=
  e = .returned v ∧ ∃ F', D w' d F' m ∧ (∀ k, F' k → F k ∨ (w.heap.size ≤ k ∧ k < w'.heap.size)) ∧ Fr F w w'
def TellZ (v : Value) (w : World) (e : Ending) (w' : World) : Prop := e = .returned v ∧ Fr No w w'
abbrev wf64 (x : Int) : Prop := (Lit.int .i64 x).wf = true
/-- THE CONTRACTS of a device. -/
structure ZoneOK (D : World → Nat → (Nat → Prop) → Dev → Prop) : Prop where
  keep : ∀ {w w' : World} {d : Nat} {F T : Nat → Prop} {m : Dev}, D w d F m → Fr T w w' → (∀ k, F k → ¬ T k) → D w' d F m
  low : ∀ {w : World} {d : Nat} {F : Nat → Prop} {m : Dev}, D w d F m → ∀ k, F k → k < w.heap.size
  check : ∀ (z s o : Int) (w : World), wf64 z → wf64 s → wf64 o → Calls Try.prog 9 #[.agg #[.int .i64 z, .int .i64 s, .int .i64 o]] w (TellZ (.bool (rightG z s o)) w)
  new : ∀ (z s o : Int) (w : World), wf64 z → wf64 s → wf64 o → Calls Try.prog 7 #[.agg #[.int .i64 z, .int .i64 s, .int .i64 o]] w fun e w' => Fr No w w' ∧ (rightG z s o = false → e = .returned (.pointer none)) ∧
      (rightG z s o = true → ∃ d F, e = .returned (.pointer (some ⟨d, 0, none⟩)) ∧ D w' d F (newM z s o) ∧ ∀ k, F k → w.heap.size ≤ k)
  append : ∀ {w : World} {d : Nat} {F : Nat → Prop} {m : Dev}, D w d F m → WF m → m.done < 1000000 → ∀ (z : Int), wf64 z → ∀ (S : Nat → Prop) (a : Option Addr) (c : Nat) (b : List UInt8), b.length ≤ 1000000 → b.length ≤ c → c ≤ maxLen → In w S a b → (∀ k, S k → ¬ F k) →
    Calls Try.prog 11 #[.pointer (some ⟨d, 0, none⟩), .int .i64 z, .slice a b.length c] w (MoveZ D d F (appM m z b) (.int .i64 (cmdR m (appErr m z b))) w)
  read : ∀ {w : World} {d : Nat} {F : Nat → Prop} {m : Dev}, D w d F m → WF m → ∀ (z t n : Int), wf64 z → wf64 t → wf64 n →
    Calls Try.prog 18 #[.pointer (some ⟨d, 0, none⟩), .int .i64 z, .int .i64 t, .int .i64 n] w fun e w' => ∃ a c, e = .returned (.tuple #[.slice a (rdB m z t n).length c, .int .i64 (rdErr m z t n)]) ∧ (rdB m z t n).length ≤ c ∧ c ≤ maxLen ∧ In w' (From w.heap.size) a (rdB m z t n) ∧ Fr No w w'
  reset : ∀ {w : World} {d : Nat} {F : Nat → Prop} {m : Dev}, D w d F m → WF m → m.done < 1000000 → ∀ (z : Int), wf64 z →
    Calls Try.prog 13 #[.pointer (some ⟨d, 0, none⟩), .int .i64 z] w (MoveZ D d F (resM m z) (.int .i64 (cmdR m (resErr m z))) w)
  finish : ∀ {w : World} {d : Nat} {F : Nat → Prop} {m : Dev}, D w d F m → WF m → m.done < 1000000 → ∀ (z : Int), wf64 z →
    Calls Try.prog 14 #[.pointer (some ⟨d, 0, none⟩), .int .i64 z] w (MoveZ D d F (finM m z) (.int .i64 (cmdR m (finErr m z))) w)
  flush : ∀ {w : World} {d : Nat} {F : Nat → Prop} {m : Dev}, D w d F m → WF m → m.done < 1000000 →
    Calls Try.prog 15 #[.pointer (some ⟨d, 0, none⟩)] w (MoveZ D d F (fluM m) (.int .i64 (cmdR m (fluErr m))) w)
  arm : ∀ {w : World} {d : Nat} {F : Nat → Prop} {m : Dev}, D w d F m → WF m → ∀ (n : Int), wf64 n →
    Calls Try.prog 16 #[.pointer (some ⟨d, 0, none⟩), .int .i64 n] w (MoveZ D d F (armM m n) (.tuple #[]) w)
  crash : ∀ {w : World} {d : Nat} {F : Nat → Prop} {m : Dev}, D w d F m → WF m → ∀ (a : Option Addr) (c : Nat) (ks : List Int), ks.length ≤ 1000000 → ks.length ≤ c → c ≤ maxLen → Ints w a ks → (0 < ks.length → ∀ b o, a = some ⟨b, o, none⟩ → ¬ F b) →
    Calls Try.prog 17 #[.pointer (some ⟨d, 0, none⟩), .slice a ks.length c] w (MoveZ D d F (crashM m ks) (.tuple #[]) w)
  state : ∀ {w : World} {d : Nat} {F : Nat → Prop} {m : Dev}, D w d F m → WF m → ∀ (z : Int), wf64 z → Calls Try.prog 21 #[.pointer (some ⟨d, 0, none⟩), .int .i64 z] w (TellZ (.int .i64 (stateM m z)) w)
  pointer : ∀ {w : World} {d : Nat} {F : Nat → Prop} {m : Dev}, D w d F m → WF m → ∀ (z : Int), wf64 z → Calls Try.prog 12 #[.pointer (some ⟨d, 0, none⟩), .int .i64 z] w (TellZ (.int .i64 (ptrM m z)) w)
  flushed : ∀ {w : World} {d : Nat} {F : Nat → Prop} {m : Dev}, D w d F m → WF m → ∀ (z : Int), wf64 z → Calls Try.prog 20 #[.pointer (some ⟨d, 0, none⟩), .int .i64 z] w (TellZ (.int .i64 (fldM m z)) w)
  opened : ∀ {w : World} {d : Nat} {F : Nat → Prop} {m : Dev}, D w d F m → WF m → Calls Try.prog 22 #[.pointer (some ⟨d, 0, none⟩)] w (TellZ (.int .i64 (opened m : Int)) w)
  done : ∀ {w : World} {d : Nat} {F : Nat → Prop} {m : Dev}, D w d F m → WF m → Calls Try.prog 24 #[.pointer (some ⟨d, 0, none⟩)] w (TellZ (.int .i64 (m.done : Int)) w)
  down : ∀ {w : World} {d : Nat} {F : Nat → Prop} {m : Dev}, D w d F m → WF m → Calls Try.prog 23 #[.pointer (some ⟨d, 0, none⟩)] w (TellZ (.bool m.down) w)
theorem wf_small {x : Int} (h1 : -9223372036854775808 ≤ x) (h2 : x ≤ 9223372036854775807) : wf64 x := by
  simp [wf64, Lit.wf, IntKind.min, IntKind.max, IntKind.signed, IntKind.bits]
  omega
theorem wf_out {x : Int} (h : wf64 x) : -9223372036854775808 ≤ x ∧ x ≤ 9223372036854775807 := by
  simp [wf64, Lit.wf, IntKind.min, IntKind.max, IntKind.signed, IntKind.bits] at h
  omega

/-! ### The bound on calls. -/
def okOp (o : Op7) : Bool := decide (o.d.length ≤ 400) && decide (o.ks.length ≤ 70)
def small7 (l : List Op7) (most : Int) : Bool := l.all okOp && decide ((l.length : Int) ≤ most)
theorem small7_no {l : List Op7} {most : Int} {j : Nat} {x : Op7} (hx : l[j]? = some x) (h : 400 < x.d.length ∨ 70 < x.ks.length) : small7 l most = false := by
  unfold small7
  have : l.all okOp = false := by
    rw [List.all_eq_false]
    refine ⟨x, List.mem_of_getElem? hx, ?_⟩
    unfold okOp
    rw [Bool.not_eq_true, Bool.and_eq_false_iff, decide_eq_false_iff_not, decide_eq_false_iff_not]
    omega
  rw [this]
  rfl
theorem small7_all {l : List Op7} {most : Int} (h : ∀ (j : Nat) (x : Op7), l[j]? = some x → okOp x = true) : small7 l most = decide ((l.length : Int) ≤ most) := by
  unfold small7
  have : l.all okOp = true := by
    rw [List.all_eq_true]
    intro x hx
    obtain ⟨i, hi, rfl⟩ := List.getElem_of_mem hx
    exact h i _ (List.getElem?_eq_getElem hi)
  rw [this]
  rfl
theorem small7_yes {l : List Op7} {most : Int} (h : small7 l most = true) : (l.length : Int) ≤ most ∧ ∀ (j : Nat) (x : Op7), l[j]? = some x → x.d.length ≤ 400 ∧ x.ks.length ≤ 70 := by
  unfold small7 at h
  rw [Bool.and_eq_true, List.all_eq_true, decide_eq_true_eq] at h
  refine ⟨h.2, fun j x hx => ?_⟩
  have := h.1 x (List.mem_of_getElem? hx)
  unfold okOp at this
  rw [Bool.and_eq_true, decide_eq_true_eq, decide_eq_true_eq] at this
  exact this
abbrev opC (x : Op7) : Array Value := #[.int .i64 x.k, .int .i64 x.z, .int .i64 x.t, .int .i64 x.n, .slice x.da x.d.length x.dc, .slice x.ka x.ks.length x.kc]
set_option maxRecDepth 20000 in
set_option maxHeartbeats 1600000 in
theorem small_c (a : Option Addr) (cap : Nat) (l : List Op7) (most : Int) (w : World) (hc : l.length ≤ cap) (hm : cap ≤ maxLen) (hi : Op7s w a l) :
    Calls Try.prog 8 #[.slice a l.length cap, .int .i64 most] w fun e w' => e = .returned (.bool (small7 l most)) ∧ Fr No w w' := by
  unfold maxLen at hm
  have HI := Lib.hid hi
  have HNO := Lib.hid (fun (j : Nat) (x : Op7) hx h => small7_no (l := l) (most := most) (j := j) (x := x) hx h)
  have HALL := Lib.hid (fun h => small7_all (l := l) (most := most) h)
  clear hi
  generalize small7 l most = R at *
  obtain ⟨n, hn⟩ : ∃ n, l.length = n := ⟨_, rfl⟩
  rw [hn] at hc HALL
  rw [hn]
  have HN := Lib.hid hn
  clear hn
  go_enter Try.func8, Try.ntmps8
  go_wp2_with fail
  go_loopw [9] (fun i wr => ∃ j : Nat, i = .int .i64 j ∧ j ≤ n ∧ Fr No w wr ∧ ∀ (t : Nat) (x : Op7), t < j → l[t]? = some x → okOp x = true) (fun i _ => n - (intOf i).toNat)
  case atStart => exact ⟨0, rfl, Nat.zero_le _, Fr.refl _ _, fun t x h => absurd h (Nat.not_lt_zero t)⟩
  case round =>
    obtain ⟨j, rfl, hj, hfr, hall⟩ := hrel
    have HA := Lib.hid hall
    have HF := Lib.hid hfr
    clear hall hfr
    by_cases h1 : j < n
    · have d1 : decide ((j : Int) < (n : Int)) = true := by rw [decide_eq_true_eq]; omega
      obtain ⟨b, o, rfl, hx⟩ := HI.out (by rw [HN.out]; omega)
      obtain ⟨x, hx0⟩ : ∃ x, l[j]? = some x := ⟨_, List.getElem?_eq_getElem (by rw [HN.out]; exact h1)⟩
      have hxj := (hx j x hx0).keep HF.out
      have q0 := hxj.c0
      have q1 := hxj.c1
      have q2 := hxj.c2
      have q3 := hxj.c3
      have q4 := hxj.c4
      have q5 := hxj.c5
      have hdl := hxj.dl
      have hdm := hxj.dm
      have hkl := hxj.kl
      have hkm := hxj.km
      unfold maxLen at hdm hkm
      have HX0 := Lib.hid hx0
      obtain ⟨xk, xz, xt, xn, xda, xdc, xd, xka, xkc, xks⟩ := x
      simp only at q0 q1 q2 q3 q4 q5 hdl hdm hkl hkm
      obtain ⟨dn, hdn⟩ : ∃ m, xd.length = m := ⟨_, rfl⟩
      obtain ⟨kn, hkn⟩ : ∃ m, xks.length = m := ⟨_, rfl⟩
      rw [hdn] at q4 hdl
      rw [hkn] at q5 hkl
      have HDN := Lib.hid hdn
      have HKN := Lib.hid hkn
      have HF2 := Lib.hid (HF.out.alloc (.cells #[.int .i64 xk, .int .i64 xz, .int .i64 xt, .int .i64 xn, .slice xda dn xdc, .slice xka kn xkc] 33))
      clear hx hx0 hdn hkn hxj
      by_cases h2 : 400 < dn
      · have d2 : decide ((400 : Int) < (dn : Int)) = true := by rw [decide_eq_true_eq]; omega
        have HR := Lib.hid (HNO.out j _ HX0.out (.inl (by show 400 < xd.length; rw [HDN.out]; exact h2)))
        clear h2
        go_wp2_with fail
        go_ret
        exact ⟨by rw [HR.out]; rfl, HF2.out⟩
      have d2 : decide ((400 : Int) < (dn : Int)) = false := by rw [decide_eq_false_iff_not]; omega
      by_cases h3 : 70 < kn
      · have d3 : decide ((70 : Int) < (kn : Int)) = true := by rw [decide_eq_true_eq]; omega
        have HR := Lib.hid (HNO.out j _ HX0.out (.inr (by show 70 < xks.length; rw [HKN.out]; exact h3)))
        clear h2 h3
        go_wp2_with fail
        go_ret
        exact ⟨by rw [HR.out]; rfl, HF2.out⟩
      have d3 : decide ((70 : Int) < (kn : Int)) = false := by rw [decide_eq_false_iff_not]; omega
      have HA2 : Hid (∀ (t : Nat) (x : Op7), t < j + 1 → l[t]? = some x → okOp x = true) := Lib.hid fun t x ht hx => by
        rcases Nat.lt_or_ge t j with h | h
        · exact HA.out t x h hx
        · obtain rfl : t = j := by omega
          rw [HX0.out] at hx
          obtain rfl := Option.some.inj hx
          unfold okOp
          rw [Bool.and_eq_true, decide_eq_true_eq, decide_eq_true_eq]
          exact ⟨by show xd.length ≤ 400; rw [HDN.out]; omega, by show xks.length ≤ 70; rw [HKN.out]; omega⟩
      clear h2 h3
      go_wp2_with fail
      go_roundw
      case rel => exact ⟨j + 1, by simp, by omega, HF2.out, HA2.out⟩
      case measure => simp [intOf]; omega
    · obtain rfl : j = n := by omega
      have d1 : decide ((j : Int) < (j : Int)) = false := by simp
      have HR := Lib.hid (HALL.out (fun t x hx => HA.out t x (by
        rcases Nat.lt_or_ge t j with h | h
        · exact h
        · rw [List.getElem?_eq_none (by rw [HN.out]; exact h)] at hx; cases hx) hx))
      go_wp2_with fail
      go_ret
      exact ⟨by rw [HR.out]; rfl, HF.out⟩
end Go.Proofs.Ytkoebafalbcnbaa
