/-
  Texts of layer 14 and of what it stands on, one behind the other.
-/
import Derived.Test.YtihahckjcedceaaDoorMg15
import Derived.Laws.Append

/- Layer 7, the program's own device: slices.Clone of bytes, Read. -/
namespace Go.Proofs.YtihahckjcedceaaDoor
set_option linter.unusedVariables false
open Go.RowKit

theorem row_empty7 (w : World) : Row (w.alloc (.cells #[] 5)) (Gr No w (w.alloc (.cells #[] 5))) (.slice (some ⟨w.heap.size, 0, none⟩) 0 0) [] :=
  ⟨⟨rfl, .inr ⟨w.heap.size, 0, #[], rfl, Nat.zero_le _, heap_alloc_new w _, Nat.le_refl _, by simp [maxLen], rfl, rfl⟩⟩, fun k hk => by
    have : w.heap.size = k := Option.some.inj hk
    subst this
    exact .inr ⟨Nat.le_refl _, by simp⟩⟩
def CopyD (l : List UInt8) (w : World) (e : Ending) (w' : World) : Prop := ∃ a c, e = .returned (.slice a l.length c) ∧ l.length ≤ c ∧ c ≤ maxLen ∧ In w' (From w.heap.size) a l ∧ Fr No w w'
set_option maxRecDepth 20000 in
set_option maxHeartbeats 800000 in
theorem cloneB_c (a : Option Addr) (len cap : Nat) (l : List UInt8) (w : World) (hl : l.length = len) (hlm : len ≤ 1000000000) (hr : Rd w a l) :
    Calls Tryd.prog 73 #[.slice a len cap] w (CopyD l w) := by
  cases a with
  | none =>
    have h0 : l = [] := by
      rcases Nat.eq_zero_or_pos l.length with h | h
      · exact List.eq_nil_of_length_eq_zero h
      · obtain ⟨_, _, e, _⟩ := hr h
        cases e
    subst h0
    obtain rfl : 0 = len := hl
    have he : ∀ w : World, (binOp .eql 51 (.slice none 0 cap) (.slice none 0 0)).run Tryd.prog w = .ok (.bool true) w := fun _ => rfl
    go_enter Tryd.func73, Tryd.ntmps73
    go_wp2_with fail
    go_ret
    exact ⟨none, 0, rfl, Nat.le_refl _, by simp [maxLen], In.nil _ _ _, Fr.refl _ _⟩
  | some ad =>
    have R0 := row_empty7 w
    have f0 := (Fr.refl No w).alloc (.cells #[] 5)
    obtain ⟨v1, w1, hrun, hrow, hfr⟩ := R0.append (some ad) len cap l hl (hr.keep f0) (by simp; omega)
    rw [List.nil_append] at hrow
    have HRUN := Lib.hid hrun
    have HN : Hid (CopyD l w (.returned v1) w1) := Lib.hid (by
      obtain ⟨a', c', rfl, h1, h2, h3⟩ := (hrow.join f0.size hfr.size).form
      exact ⟨a', c', rfl, h1, h2, h3.sub fun k _ hk => hk.elim (fun h => h.elim) (fun h => h.1), f0.then_ hfr fun k hk h => Gr.old hk h⟩)
    clear R0 f0 hrun hrow hfr hr hl
    have he : ∀ w : World, (binOp .eql 51 (.slice (some ad) len cap) (.slice none 0 0)).run Tryd.prog w = .ok (.bool false) w := fun _ => rfl
    go_enter Tryd.func73, Tryd.ntmps73
    go_wp2_with (at_builtin; refine wpList_append_run rfl _ _ 51 rfl rfl rfl HRUN.out ?_)
    go_ret
    exact HN.out
theorem rdErr_eq (m : Dev) (z t n : Int) : rdErr m z t n = if resErr m z = 0 then (if decide (t < 0) || decide (n < 0) || decide (((zoneM m z).b.length : Int) < t + n) then 70 else 0) else resErr m z := by
  unfold rdErr resErr
  cases m.down <;> cases hasZ m z <;> rfl
def ReadD (m : Dev) (z t n : Int) (w : World) (e : Ending) (w' : World) : Prop := ∃ a c, e = .returned (.tuple #[.slice a (rdB m z t n).length c, .int .i64 (rdErr m z t n)]) ∧ (rdB m z t n).length ≤ c ∧ c ≤ maxLen ∧ In w' (From w.heap.size) a (rdB m z t n) ∧ Fr No w w'
theorem ReadD.err {m : Dev} {z t n : Int} {r : Int} (h : rdErr m z t n = r) (h0 : r ≠ 0) (w : World) : ReadD m z t n w (.returned (.tuple #[.slice none 0 0, .int .i64 r])) w := by
  have hb : rdB m z t n = [] := by unfold rdB; rw [h, if_neg h0]
  refine ⟨none, 0, ?_, ?_, by simp [maxLen], ?_, Fr.refl _ _⟩
  · rw [hb, h]; rfl
  · rw [hb]; exact Nat.le_refl _
  · rw [hb]; exact In.nil _ _ _
section
variable {w : World} {d : Nat} {F : Nat → Prop} {m : Dev}
set_option maxRecDepth 20000 in
set_option maxHeartbeats 1600000 in
theorem dread_c (h : Dz w d F m) (hw : WF m) (z t n : Int) (wt : (Lit.int .i64 t).wf = true) (wn : (Lit.int .i64 n).wf = true) :
    Calls Tryd.prog 53 #[.pointer (some ⟨d, 0, none⟩), .int .i64 z, .int .i64 t, .int .i64 n] w (ReadD m z t n w) := by
  have C := Lib.hid (reach_c h hw z)
  have hre := rdErr_eq m z t n
  by_cases he : resErr m z = 0
  · rw [if_pos he] at hre
    obtain ⟨_, H⟩ := resErr_ok he
    obtain ⟨_, zb, xs, ar, lf, hz1, _⟩ := h
    obtain ⟨x, k, rfl, hk, hx, hz, z0, z1, z2⟩ := hz1.zone H
    obtain ⟨c0, c1, c2, c3, c4, c5, c6, c7⟩ := hz1.cells
    rw [he] at C
    rw [← hz] at hre
    have hll := (zoneM_ok hw (k : Int)).l
    have hs64 := hw.s64
    rw [← hz] at hll
    obtain ⟨a', cap, e, hlc, hcm, hin⟩ := (hz1.row k x hx).form
    simp only [Value.slice.injEq, true_and] at e
    obtain ⟨rfl, rfl⟩ := e
    have hrd := hin.rd
    have HB := Lib.hid (show rdErr m (k : Int) t n = 0 → rdB m (k : Int) t n = (x.z.b.drop t.toNat).take n.toNat from fun h => by unfold rdB; rw [h, if_pos rfl, hz])
    obtain ⟨l, hl⟩ : ∃ l, x.z.b = l := ⟨_, rfl⟩
    rw [hl] at hre hll hlc hrd HB z0
    have HRD := Lib.hid hrd
    clear hrd hin hl hz hx hz1 H he hw z1 z2
    have HRE := Lib.hid hre
    clear hre
    have HER := Lib.hid (fun (r : Int) (h : rdErr m (k : Int) t n = r) (h0 : r ≠ 0) => ReadD.err h h0 w)
    have HOK : Hid (rdErr m (k : Int) t n = 0 → rdB m (k : Int) t n = (l.drop t.toNat).take n.toNat → ∀ w' : Value × World, CopyD ((l.drop t.toNat).take n.toNat) w (.returned w'.1) w'.2 → ReadD m (k : Int) t n w (.returned (.tuple #[w'.1, .int .i64 0])) w'.2) := Lib.hid fun h1 h2 w' ⟨a, c, h3, h4, h5, h6, h7⟩ => by
      refine ⟨a, c, ?_, ?_, h5, ?_, h7⟩
      · rw [h2, h1]
        have : w'.1 = Value.slice a ((l.drop t.toNat).take n.toNat).length c := by simpa using h3
        rw [this]
      · rw [h2]; exact h4
      · rw [h2]; exact h6
    have C1 := Lib.hid (within_c t 0 (l.length : Int))
    have C2 := Lib.hid (fun (r : Int) => within_c n 0 r)
    obtain ⟨len, hlen⟩ : ∃ n, l.length = n := ⟨_, rfl⟩
    rw [hlen] at hll hlc HRE C1 z0
    have HLEN := Lib.hid hlen
    clear hlen
    generalize m.zs.length = nz at *
    by_cases h1 : 0 ≤ t ∧ t ≤ (len : Int)
    · rw [show (decide (0 ≤ t) && decide (t ≤ (len : Int))) = true by simp [h1.1, h1.2]] at C1
      obtain ⟨t, rfl⟩ : ∃ k : Nat, t = (k : Int) := ⟨t.toNat, by omega⟩
      have w1 : IntKind.i64.wrap ((len : Int) - (t : Int)) = (len : Int) - (t : Int) := by
        simp [IntKind.wrap, IntKind.signed, IntKind.bits]
        omega
      have C2 := Lib.hid (C2.out ((len : Int) - (t : Int)))
      by_cases h2 : 0 ≤ n ∧ n ≤ (len : Int) - (t : Int)
      · rw [show (decide (0 ≤ n) && decide (n ≤ (len : Int) - (t : Int))) = true by simp [h2.1, h2.2]] at C2
        obtain ⟨n, rfl⟩ : ∃ k : Nat, n = (k : Int) := ⟨n.toNat, by omega⟩
        have hr0 : rdErr m (k : Int) (t : Int) (n : Int) = 0 := by
          rw [HRE.out, if_neg (by simp; omega)]
        have HOK := Lib.hid (HOK.out hr0 (HB.out hr0))
        have hcut := fun w => cut_both (P := Tryd.prog) Tryd.underlying51 (size_one cellsU8 (by obtain ⟨i0, hi, _, hz1, _⟩ := info_parts infoU8; exact ⟨i0, hi, hz1⟩)) x.a len x.c t (t + n) (by omega) (by omega) w
        have hcast : ((t + n : Nat) : Int) = (t : Int) + (n : Int) := by omega
        rw [hcast, show t + n - t = n by omega] at hcut
        have w2 : IntKind.i64.wrap ((t : Int) + (n : Int)) = (t : Int) + (n : Int) := by
          simp [IntKind.wrap, IntKind.signed, IntKind.bits]
          omega
        have CC := Lib.hid (cloneB_c (cutAt x.a t x.c) n (x.c - t) ((l.drop t).take n) w (by have := HLEN.out; simp; omega) (by omega) ((HRD.out.drop t x.c (by rw [HLEN.out]; exact hlc)).take n))
        obtain ⟨ca, hca⟩ : ∃ ca, cutAt x.a t x.c = ca := ⟨_, rfl⟩
        obtain ⟨cc, hcc⟩ : ∃ cc, x.c - t = cc := ⟨_, rfl⟩
        rw [hca, hcc] at CC hcut
        clear hca hcc h1 h2 hr0 HB HER HRE hcast
        go_enter Tryd.func53, Tryd.ntmps53
        go_wp2_with fail
        refine C.out.mono ?_
        rintro e w' ⟨rfl, rfl⟩
        go_wp2_with fail
        refine (C1.out _).mono ?_
        rintro e w' ⟨rfl, rfl⟩
        go_wp2_with fail
        refine (C2.out _).mono ?_
        rintro e w' ⟨rfl, rfl⟩
        go_wp2_with fail
        refine CC.out.mono ?_
        rintro e w2 ⟨a3, c3, rfl, h4⟩
        have H4 := Lib.hid h4
        clear h4
        go_wp2_with fail
        go_ret2
        exact HOK.out (_, w2) ⟨a3, c3, by rw [List.length_take, List.length_drop]; rfl, H4.out⟩
      · rw [show (decide (0 ≤ n) && decide (n ≤ (len : Int) - (t : Int))) = false by simp; omega] at C2
        have HR := Lib.hid (HER.out 70 (by rw [HRE.out, if_pos (by simp; omega)]) (by omega))
        clear h2 h1 HB HRE HOK
        go_enter Tryd.func53, Tryd.ntmps53
        go_wp2_with fail
        refine C.out.mono ?_
        rintro e w' ⟨rfl, rfl⟩
        go_wp2_with fail
        refine (C1.out _).mono ?_
        rintro e w' ⟨rfl, rfl⟩
        go_wp2_with fail
        refine (C2.out _).mono ?_
        rintro e w' ⟨rfl, rfl⟩
        go_wp2_with fail
        go_ret2
        exact HR.out
    · rw [show (decide (0 ≤ t) && decide (t ≤ (len : Int))) = false by simp; omega] at C1
      have HR := Lib.hid (HER.out 70 (by rw [HRE.out, if_pos (by simp; omega)]) (by omega))
      clear h1 HB HRE HOK
      go_enter Tryd.func53, Tryd.ntmps53
      go_wp2_with fail
      refine C.out.mono ?_
      rintro e w' ⟨rfl, rfl⟩
      go_wp2_with fail
      refine (C1.out _).mono ?_
      rintro e w' ⟨rfl, rfl⟩
      go_wp2_with fail
      go_ret2
      exact HR.out
  · rw [if_neg he] at hre
    have HR := Lib.hid (ReadD.err hre he w)
    have e1 : (resErr m z == 0) = false := by rw [beq_eq_false_iff_ne]; exact he
    clear h hw he hre
    generalize resErr m z = r at *
    go_enter Tryd.func53, Tryd.ntmps53
    go_wp2_with fail
    refine C.out.mono ?_
    rintro e w1 ⟨rfl, rfl⟩
    go_wp2_with fail
    go_ret2
    exact HR.out
end
end Go.Proofs.YtihahckjcedceaaDoor
