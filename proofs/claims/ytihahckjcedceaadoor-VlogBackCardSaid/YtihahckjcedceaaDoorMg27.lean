/-
  Texts of layer 14 and of what it stands on, one behind the other.
-/
import Derived.Test.YtihahckjcedceaaDoorMg20
import Derived.Test.YtihahckjcedceaaDoorMg24
import Derived.Test.YtihahckjcedceaaDoorMg18

/- Layer 7, the program's own device: lay, Append. -/
namespace Go.Proofs.YtihahckjcedceaaDoor
set_option linter.unusedVariables false
open Go.RowKit

/-- Behind a step that puts one zone anew. -/
def PutD (d : Nat) (F : Nat → Prop) (m : Dev) (w : World) (e : Ending) (w' : World) : Prop := e = .returned (.tuple #[]) ∧ Dz w' d (Gr F w w') m ∧ Fr F w w' ∧ ∀ i : Nat, w'.cell? ⟨d, i, none⟩ = w.cell? ⟨d, i, none⟩
section
variable {w : World} {d : Nat} {F : Nat → Prop} {m : Dev}
set_option maxHeartbeats 1600000 in
theorem lay_c (h0 : ∀ k, F k → k < w.heap.size) {zb : Nat} {xs : List Zm} {ar : Bool} {lf : Int} (h : DzAt w d zb xs m ar lf) (hF : F d ∧ F zb ∧ ∀ x ∈ xs, ∀ k, x.g = some k → F k)
    {k : Nat} {x : Zm} (hx : xs[k]? = some x) (a : Option Addr) (c : Nat) (b : List UInt8) (hb : b.length ≤ 1000000) (hr : Rd w a b) (hl : x.z.b.length ≤ 65536) :
    Calls Tryd.prog 57 #[.pointer (some ⟨zb, k * 3, none⟩), .slice a b.length c, .int .i64 (m.size : Int)] w (PutD d F (setZ m k ⟨x.z.b ++ b, x.z.f, if x.z.b.length + b.length = m.size then 2 else 1⟩) w) := by
  have hrow : Row w (Own x) (.slice x.a x.z.b.length x.c) x.z.b := ⟨(h.row k x hx).1, fun b hb => hb⟩
  obtain ⟨v', w1, hrun, hrow1, hf1⟩ := hrow.append a b.length c b rfl hr (by omega)
  obtain ⟨a', c', rfl, _, _, _⟩ := hrow1.form
  have hrow2 : Row w1 (fun b => Own x b ∨ w.heap.size ≤ b) (.slice a' (x.z.b ++ b).length c') (x.z.b ++ b) := hrow1.sub fun k _ hk => hk.elim .inl fun h => .inr h.1
  obtain ⟨od, oz, ol⟩ := h.own hx
  have hz := h.hz
  have hz1 := hz.keep hf1 oz
  obtain ⟨g0, g1, g2⟩ := zsC_get xs k x hx
  have z0 : w.cell? ⟨zb, k * 3, none⟩ = some (.slice x.a x.z.b.length x.c) := by rw [hz.cell, List.getElem?_toArray, g0]
  have y0 : w1.cell? ⟨zb, k * 3, none⟩ = some (.slice x.a x.z.b.length x.c) := by rw [hz1.cell, List.getElem?_toArray, g0]
  have y2 : w1.cell? ⟨zb, k * 3 + 2, none⟩ = some (.int .i64 (x.z.s : Int)) := by rw [hz1.cell, List.getElem?_toArray, g2]
  have q0 := hz1.frozen (k * 3)
  have q2 := hz1.frozen (k * 3 + 2)
  have hlen : (x.z.b ++ b).length = x.z.b.length + b.length := List.length_append
  rw [hlen] at hrun
  have f2 : Fr (One zb) w1 ((w1.setCell ⟨zb, k * 3, none⟩ (.slice a' (x.z.b.length + b.length) c')).setCell ⟨zb, k * 3 + 2, none⟩ (.int .i64 1)) := ((Fr.refl (One zb) w1).setCell (p := ⟨zb, k * 3, none⟩) (fun _ => (rfl : zb = zb)) _).setCell (p := ⟨zb, k * 3 + 2, none⟩) (fun _ => (rfl : zb = zb)) _
  have f3 := f2.setCell (p := ⟨zb, k * 3 + 2, none⟩) (fun _ => (rfl : zb = zb)) (.int .i64 2)
  have at2 := (hz1.set_ (k * 3) (.slice a' (x.z.b.length + b.length) c')).set_ (k * 3 + 2) (.int .i64 1)
  have at3 := at2.set_ (k * 3 + 2) (.int .i64 2)
  by_cases hfull : x.z.b.length + b.length = m.size
  · have R := Dz.put h0 h hF (x' := ⟨a', c', ⟨x.z.b ++ b, x.z.f, 2⟩⟩) hx hf1 (by show Row w1 _ (.slice a' (x.z.b ++ b).length c') _; exact hrow2) f3 (by
      rw [zsC_02 hx ⟨a', c', ⟨x.z.b ++ b, x.z.f, 2⟩⟩ rfl]
      show At _ zb _ (((zsC xs).toArray.setIfInBounds (k * 3) (.slice a' (x.z.b ++ b).length c')).setIfInBounds (k * 3 + 2) (.int .i64 2))
      rw [hlen]
      have e : ∀ (A : Array Value), (A.setIfInBounds (k * 3 + 2) (.int .i64 1)).setIfInBounds (k * 3 + 2) (.int .i64 2) = A.setIfInBounds (k * 3 + 2) (.int .i64 2) := fun A => by
        apply Array.ext'
        simp
      rw [← e]
      exact at3)
    rw [if_pos hfull]
    have R := Lib.hid R
    have HRUN := Lib.hid hrun
    have hs : ((x.z.b.length + b.length : Nat) : Int) = (m.size : Int) := by omega
    have d1 : (((x.z.b.length + b.length : Nat) : Int) == (m.size : Int)) = true := by rw [beq_iff_eq]; exact hs
    clear hrun at2 at3 f2 f3 hrow hrow1 hrow2 hf1 h hF hr hx h0 hz hz1 hfull hs hlen od oz ol g0 g1 g2
    generalize setZ m _ _ = M at *
    generalize x.z.b.length + b.length = n2 at *
    generalize x.z.b.length = n1 at *
    generalize b.length = nb at *
    generalize m.size = sz at *
    go_enter Tryd.func57, Tryd.ntmps57
    go_wp2_with (at_builtin; refine wpList_append_run rfl _ _ 51 rfl rfl rfl HRUN.out ?_)
    go_end0
    exact ⟨rfl, R.out⟩
  · have R := Dz.put h0 h hF (x' := ⟨a', c', ⟨x.z.b ++ b, x.z.f, 1⟩⟩) hx hf1 (by show Row w1 _ (.slice a' (x.z.b ++ b).length c') _; exact hrow2) f2 (by
      rw [zsC_02 hx ⟨a', c', ⟨x.z.b ++ b, x.z.f, 1⟩⟩ rfl]
      show At _ zb _ (((zsC xs).toArray.setIfInBounds (k * 3) (.slice a' (x.z.b ++ b).length c')).setIfInBounds (k * 3 + 2) (.int .i64 1))
      rw [hlen]
      exact at2)
    rw [if_neg hfull]
    have R := Lib.hid R
    have HRUN := Lib.hid hrun
    have d1 : (((x.z.b.length + b.length : Nat) : Int) == (m.size : Int)) = false := by rw [beq_eq_false_iff_ne]; omega
    clear hrun at2 at3 f2 f3 hrow hrow1 hrow2 hf1 h hF hr hx h0 hz hz1 hfull hlen od oz ol g0 g1 g2
    generalize setZ m _ _ = M at *
    generalize x.z.b.length + b.length = n2 at *
    generalize x.z.b.length = n1 at *
    generalize b.length = nb at *
    generalize m.size = sz at *
    go_enter Tryd.func57, Tryd.ntmps57
    go_wp2_with (at_builtin; refine wpList_append_run rfl _ _ 51 rfl rfl rfl HRUN.out ?_)
    go_end0
    exact ⟨rfl, R.out⟩
theorem mov_of {w w1 w2 w3 : World} {d : Nat} {F : Nat → Prop} {m : Dev} {v : Value} (f0 : Fr No w w1) (f1 : Fr F w1 w2) (f2 : Fr (Gr F w1 w2) w2 w3) (h : Dz w3 d (Gr F w1 w2) m) (h0 : ∀ k, F k → k < w.heap.size) : MovD d F m v w (.returned v) w3 :=
  ⟨rfl, _, h, fun k hk => hk.elim .inl fun h => .inr ⟨Nat.le_trans f0.size h.1, Nat.lt_of_lt_of_le h.2 f2.size⟩, ((f0.sub fun _ _ h => h.elim).then_ f1 fun _ _ h => h).then_ f2 fun k hk h => h.elim (fun h => h) fun h => absurd hk (by have := f0.size; omega)⟩
set_option maxRecDepth 20000 in
set_option maxHeartbeats 1600000 in
theorem append_c (h : Dz w d F m) (hw : WF m) (hd : m.done < 1000000) (z : Int) (S : Nat → Prop) (a : Option Addr) (c : Nat) (b : List UInt8) (hb : b.length ≤ 1000000) (hc : b.length ≤ c) (hm : c ≤ maxLen) (hr : In w S a b) (hS : ∀ k, S k → ¬ F k) :
    Calls Tryd.prog 29 #[.pointer (some ⟨d, 0, none⟩), .int .i64 z, .slice a b.length c] w (MovD d F (appM m z b) (.int .i64 (cmdR m (appErr m z b))) w) := by
  have C := Lib.hid (mayAppend_c h hw z b hb)
  have HD := Lib.hid h
  have HLOW := Lib.hid h.1
  by_cases he : appErr m z b = 0
  · obtain ⟨h1, H, _, _, h5⟩ := appErr_ok he
    obtain ⟨h00, zb, xs, ar, lf, hz0, hF⟩ := h
    obtain ⟨x, k, rfl, hk, hx, hz, _, _, _⟩ := hz0.zone H
    obtain ⟨c0, c1, c2, c3, c4, c5, c6, c7⟩ := hz0.cells
    have hok := (zoneM_ok hw (k : Int)).l
    have s64 := hw.s64
    have CL := Lib.hid (fun (w' : World) (f : Fr No w w') => lay_c (m := m) (F := F) (fun k hk => Nat.lt_of_lt_of_le (h00 k hk) f.size) (hz0.keep f (fun h => h) (fun h => h) (fun _ _ _ _ h => h)) hF hx a c b hb (hr.keep f (fun _ _ h => h)).rd (by rw [hz]; omega))
    have e1 : setZ m (k : Int) ⟨x.z.b ++ b, x.z.f, if x.z.b.length + b.length = m.size then 2 else 1⟩ = setZ m (k : Int) (appZ m (k : Int) b) := by rw [hz]; rfl
    rw [e1] at CL
    have CC := Lib.hid (fun (w' : World) (F' : Nat → Prop) (h : Dz w' d F' (setZ m (k : Int) (appZ m (k : Int) b))) => command_c h hd)
    have e2 : appM m (k : Int) b = powM (setZ m (k : Int) (appZ m (k : Int) b)) := by unfold appM; rw [if_pos he]
    have e3 : cmdR m (appErr m (k : Int) b) = cmdR (setZ m (k : Int) (appZ m (k : Int) b)) 0 := by rw [he]; rfl
    rw [he] at C
    rw [e2, e3]
    clear e1 e2 e3 hr hx hz hok H he h5 hz0 hF h1 HD h00
    generalize setZ m (k : Int) (appZ m (k : Int) b) = M at *
    generalize cmdR M 0 = R at *
    generalize powM M = MM at *
    have hb' := Lib.hid hb
    clear hb hc hm
    generalize m.zs.length = n at *
    generalize m.size = sz at *
    generalize b.length = nb at *
    go_enter Tryd.func29, Tryd.ntmps29
    go_wp2_with fail
    refine C.out.mono ?_
    rintro e w1 ⟨rfl, hf1⟩
    have HF1 := Lib.hid hf1
    have c1 := hf1.cell c1 (fun h => h)
    have c3 := hf1.cell c3 (fun h => h)
    clear hf1 C
    go_wp2_with fail
    go_region_held3 (fun w' => w'.cell? ⟨d, 1, none⟩ = some (.int .i64 (sz : Int)) ∧ w'.cell? ⟨d, 3, none⟩ = some (.slice (some ⟨zb, 0, none⟩) n n)) (first | assumption | go_keep)
      (first
        | (go_at_call 57; refine (CL.out _ HF1.out.drew).mono ?_; intro e w2 hret; obtain ⟨rfl, g1, g2, g3⟩ := hret
           have c1 := (g3 1).trans c1
           have c3 := (g3 3).trans c3
           have G1 := Lib.hid g1
           have G2 := Lib.hid g2
           clear g1 g2 g3))
    go_wp2_with fail
    refine (CC.out _ _ G1.out).mono ?_
    intro e w3 hret
    obtain ⟨rfl, k1, k2⟩ := hret
    have K1 := Lib.hid k1
    have K2 := Lib.hid k2
    clear k1 k2
    go_wp2_with fail
    go_ret
    exact mov_of HF1.out.drew G2.out K2.out K1.out HLOW.out
  · have e2 : appM m z b = m := by unfold appM; rw [if_neg he]
    have e3 : cmdR m (appErr m z b) = appErr m z b := by unfold cmdR; rw [if_neg he]
    rw [e2, e3]
    have e1 : (appErr m z b == 0) = false := by rw [beq_eq_false_iff_ne]; exact he
    clear h e2 e3 hr hb hc hm hw he
    generalize appErr m z b = R at *
    generalize b.length = nb at *
    go_enter Tryd.func29, Tryd.ntmps29
    go_wp2_with fail
    refine C.out.mono ?_
    rintro e w1 ⟨rfl, hf1⟩
    have HF1 := Lib.hid hf1
    clear hf1 C
    go_wp2_with fail
    go_ret
    exact ⟨rfl, F, HD.out.keep HF1.out (fun _ _ h => h), fun k hk => .inl hk, HF1.out.sub fun _ _ h => h.elim⟩
end
end Go.Proofs.YtihahckjcedceaaDoor
