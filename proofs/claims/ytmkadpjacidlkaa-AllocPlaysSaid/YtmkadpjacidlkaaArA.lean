/-
  Layer 8, the program's own table in memory: its block, the roles' block, the queue's row; used, has, Role, Own.
-/
import Derived.Test.YtmkadpjacidlkaaAlF
namespace Go.Proofs.Ytmkadpjacidlkaa
set_option linter.unusedVariables false
open Go.RowKit

abbrev igs (l : List Nat) : List Value := l.map fun (x : Nat) => Value.int .i64 (x : Int)
abbrev tbC (g n : Nat) (a : Option Addr) (k c : Nat) : Array Value := #[.slice (some ⟨g, 0, none⟩) n n, .slice a k c]
abbrev qs (l : List Nat) : List Int := l.map fun (x : Nat) => (x : Int)
structure TaAt (w : World) (t g : Nat) (a : Option Addr) (c : Nat) (b : Tb) : Prop where
  hd : At w t 54 (tbC g b.r.length a b.q.length c)
  hr : At w g 3 (igs b.r).toArray
  ne : t ≠ g
  row : RowI w (fun k => k ≠ t ∧ k ≠ g) (.slice a b.q.length c) (qs b.q)
/-- THE TABLE: all its blocks are of F. -/
def Ta (w : World) (t : Nat) (F : Nat → Prop) (b : Tb) : Prop := (∀ k, F k → k < w.heap.size) ∧ ∃ g a c, TaAt w t g a c b ∧ F t ∧ F g ∧ ∀ k, (Value.slice a b.q.length c).ownBlock = some k → F k
theorem TaAt.keep {w w' : World} {t g : Nat} {a : Option Addr} {c : Nat} {b : Tb} {T : Nat → Prop} (h : TaAt w t g a c b) (f : Fr T w w') (h1 : ¬ T t) (h2 : ¬ T g) (h3 : ∀ k, (Value.slice a b.q.length c).ownBlock = some k → ¬ T k) : TaAt w' t g a c b :=
  ⟨h.hd.keep f h1, h.hr.keep f h2, h.ne, by
    have : RowI w (fun k => (Value.slice a b.q.length c).ownBlock = some k ∧ k ≠ t ∧ k ≠ g) (.slice a b.q.length c) (qs b.q) := ⟨h.row.1, fun k hk => ⟨hk, h.row.2 k hk⟩⟩
    exact (this.keep f fun k hk => h3 k hk.1).sub fun k _ hk => hk.2⟩
theorem Ta.keep {w w' : World} {t : Nat} {F T : Nat → Prop} {b : Tb} (h : Ta w t F b) (f : Fr T w w') (hn : ∀ k, F k → ¬ T k) : Ta w' t F b := by
  obtain ⟨h0, g, a, c, h1, h2, h3, h4⟩ := h
  exact ⟨fun k hk => Nat.lt_of_lt_of_le (h0 k hk) f.size, g, a, c, h1.keep f (hn _ h2) (hn _ h3) (fun k hk => hn _ (h4 k hk)), h2, h3, h4⟩
theorem TaAt.cells {w : World} {t g : Nat} {a : Option Addr} {c : Nat} {b : Tb} (h : TaAt w t g a c b) :
    w.cell? ⟨t, 0, none⟩ = some (.slice (some ⟨g, 0, none⟩) b.r.length b.r.length) ∧ w.cell? ⟨t, 1, none⟩ = some (.slice a b.q.length c) := ⟨h.hd.cell 0, h.hd.cell 1⟩
theorem TaAt.role {w : World} {t g : Nat} {a : Option Addr} {c : Nat} {b : Tb} (h : TaAt w t g a c b) {k : Nat} (hk : k < b.r.length) : w.cell? ⟨g, k, none⟩ = some (.int .i64 ((b.r.getD k 0 : Nat) : Int)) := by
  rw [h.hr.cell, List.getElem?_toArray, List.getElem?_map, List.getElem?_eq_getElem hk, List.getD_eq_getElem?_getD, List.getElem?_eq_getElem hk]
  rfl
/-- One role anew. -/
theorem TaAt.set_ {w : World} {t g : Nat} {a : Option Addr} {c : Nat} {b : Tb} (h : TaAt w t g a c b) (k x : Nat) : TaAt (w.setCell ⟨g, k, none⟩ (.int .i64 (x : Int))) t g a c (setT b k x) := by
  have f : Fr (One g) w (w.setCell ⟨g, k, none⟩ (.int .i64 (x : Int))) := (Fr.refl (One g) w).setCell (p := ⟨g, k, none⟩) (fun _ => (rfl : g = g)) _
  refine ⟨?_, ?_, h.ne, h.row.keep f fun k hk e => hk.2 e⟩
  · have := h.hd.keep f h.ne
    show At _ t _ (tbC g (b.r.set k x).length a b.q.length c)
    rw [List.length_set]
    exact this
  · have := h.hr.set_ k (.int .i64 (x : Int))
    rw [List.setIfInBounds_toArray] at this
    show At _ g _ (igs (b.r.set k x)).toArray
    rw [show igs (b.r.set k x) = (igs b.r).set k (.int .i64 (x : Int)) from List.map_set]
    exact this
theorem Ta.set_ {w : World} {t g : Nat} {F : Nat → Prop} {a : Option Addr} {c : Nat} {b : Tb} (h0 : ∀ k, F k → k < w.heap.size) (h : TaAt w t g a c b) (h2 : F t) (h3 : F g) (h4 : ∀ k, (Value.slice a b.q.length c).ownBlock = some k → F k) (k x : Nat) :
    Ta (w.setCell ⟨g, k, none⟩ (.int .i64 (x : Int))) t F (setT b k x) ∧ Fr F w (w.setCell ⟨g, k, none⟩ (.int .i64 (x : Int))) :=
  ⟨⟨fun k hk => by simpa [World.setCell] using h0 k hk, g, a, c, h.set_ k x, h2, h3, h4⟩, (Fr.refl F w).setCell (p := ⟨g, k, none⟩) (fun _ => h3) _⟩
def IsA (v : Value) (w : World) (e : Ending) (w' : World) : Prop := e = .returned v ∧ w = w'
theorem IsA.tell {f : FuncId} {args : Array Value} {v : Value} {w : World} (h : Calls Try.prog f args w (IsA v w)) : Calls Try.prog f args w (TellZ v w) := h.mono fun e w' ⟨h1, h2⟩ => ⟨h1, h2 ▸ Fr.refl _ _⟩
set_option maxHeartbeats 400000 in
theorem used_c (x : Int) (w : World) : Calls Try.prog 27 #[.int .i64 x] w (IsA (.bool (okRole x)) w) := by
  unfold okRole
  cases h1 : decide (1 ≤ x) <;> cases h2 : decide (x ≤ 5)
  all_goals
    go_enter Try.func27, Try.ntmps27
    go_wp2_with fail
    go_ret
    exact ⟨rfl, rfl⟩
section
variable {w : World} {t : Nat} {F : Nat → Prop} {b : Tb}
set_option maxHeartbeats 400000 in
theorem hasA_c (h : Ta w t F b) (z : Int) : Calls Try.prog 29 #[.pointer (some ⟨t, 0, none⟩), .int .i64 z] w (IsA (.bool (hasT b z)) w) := by
  obtain ⟨_, g, a, c, h1, _, _, _⟩ := h
  obtain ⟨c0, _⟩ := h1.cells
  clear h1
  unfold hasT
  generalize b.r.length = n at *
  cases h1 : decide (0 ≤ z) <;> cases h2 : decide (z < (n : Int))
  all_goals
    go_enter Try.func29, Try.ntmps29
    go_wp2_with fail
    go_ret
    exact ⟨rfl, rfl⟩
set_option maxHeartbeats 800000 in
theorem role_c (h : Ta w t F b) (z : Int) : Calls Try.prog 22 #[.pointer (some ⟨t, 0, none⟩), .int .i64 z] w (IsA (.int .i64 (roleT b z)) w) := by
  have C := Lib.hid (hasA_c h z)
  obtain ⟨_, g, a, c, h1, _, _, _⟩ := h
  obtain ⟨c0, _⟩ := h1.cells
  cases hH : hasT b z with
  | true =>
    rw [hH] at C
    obtain ⟨h2, h3⟩ := hasT_iff.1 hH
    have hc := h1.role h3
    have HR : Hid (roleT b z = ((b.r.getD z.toNat 0 : Nat) : Int)) := Lib.hid (by unfold roleT rolT; rw [hH, if_pos rfl])
    obtain ⟨k, rfl⟩ : ∃ k : Nat, z = (k : Int) := ⟨z.toNat, by omega⟩
    rw [Int.toNat_natCast] at hc h3 HR
    clear h1 hH h2
    generalize b.r.length = n at *
    generalize ((b.r.getD k 0 : Nat) : Int) = x at *
    go_enter Try.func22, Try.ntmps22
    go_wp2_with fail
    refine C.out.mono ?_
    rintro e w' ⟨rfl, rfl⟩
    go_wp2_with fail
    go_ret
    exact ⟨by rw [HR.out]; rfl, rfl⟩
  | false =>
    rw [hH] at C
    have HR : Hid (roleT b z = -1) := Lib.hid (by unfold roleT; rw [hH]; rfl)
    clear h1 hH
    go_enter Try.func22, Try.ntmps22
    go_wp2_with fail
    refine C.out.mono ?_
    rintro e w' ⟨rfl, rfl⟩
    go_wp2_with fail
    go_ret
    exact ⟨by rw [HR.out]; rfl, rfl⟩
set_option maxHeartbeats 800000 in
theorem own_c (h : Ta w t F b) (z x : Int) : Calls Try.prog 9 #[.pointer (some ⟨t, 0, none⟩), .int .i64 z, .int .i64 x] w (MoveT Ta t F (ownT b z x) (.int .i64 (ownE b z x)) w) := by
  have C := Lib.hid (hasA_c h z)
  have CU := Lib.hid (used_c x w)
  have HT := Lib.hid h
  have HE : Hid (ownE b z x = if !hasT b z then 70 else if !okRole x || !(rolT b z == 0) then 80 else 0) := Lib.hid rfl
  have HN : Hid (ownE b z x ≠ 0 → MoveT Ta t F (ownT b z x) (.int .i64 (ownE b z x)) w (.returned (.int .i64 (ownE b z x))) w) := Lib.hid fun h0 => ⟨rfl, F, by unfold ownT; rw [if_neg h0]; exact h, fun k hk => .inl hk, Fr.refl _ _⟩
  obtain ⟨h0, g, a, c, h1, h2, h3, h4⟩ := h
  obtain ⟨c0, _⟩ := h1.cells
  cases hH : hasT b z with
  | false =>
    rw [hH] at C HE
    clear h1 hH h0 h2 h3 h4 HT
    go_enter Try.func9, Try.ntmps9
    go_wp2_with fail
    refine C.out.mono ?_
    rintro e w' ⟨rfl, rfl⟩
    go_wp2_with fail
    go_ret
    rw [show (70 : Int) = ownE b z x by rw [HE.out]; rfl]
    exact HN.out (by rw [HE.out]; simp)
  | true =>
    rw [hH] at C HE
    obtain ⟨h5, h6⟩ := hasT_iff.1 hH
    have hc := h1.role h6
    obtain ⟨k, rfl⟩ : ∃ k : Nat, z = (k : Int) := ⟨z.toNat, by omega⟩
    rw [Int.toNat_natCast] at hc h6
    have hfz := h1.hr.frozen k
    cases hO : okRole x with
    | false =>
      rw [hO] at CU HE
      clear h1 hH h0 h2 h3 h4 HT h5 hO
      generalize b.r.length = n at *
      go_enter Try.func9, Try.ntmps9
      go_wp2_with fail
      refine C.out.mono ?_
      rintro e w' ⟨rfl, rfl⟩
      go_wp2_with fail
      refine CU.out.mono ?_
      rintro e w' ⟨rfl, rfl⟩
      go_wp2_with fail
      go_ret
      rw [show (80 : Int) = ownE b (k : Int) x by rw [HE.out]; rfl]
      exact HN.out (by rw [HE.out]; simp)
    | true =>
      rw [hO] at CU HE
      by_cases hz : b.r.getD k 0 = 0
      · rw [hz] at hc
        have hx := okRole_iff.1 hO
        obtain ⟨x, rfl⟩ : ∃ y : Nat, x = (y : Int) := ⟨x.toNat, by omega⟩
        have HR := Lib.hid (Ta.set_ h0 h1 h2 h3 h4 k x)
        have HE0 : Hid (ownE b (k : Int) (x : Int) = 0) := Lib.hid (by rw [HE.out]; unfold rolT; rw [Int.toNat_natCast, hz]; rfl)
        clear h1 hH h0 h2 h3 h4 HT h5 hO HN
        generalize b.r.length = n at *
        go_enter Try.func9, Try.ntmps9
        go_wp2_with fail
        refine C.out.mono ?_
        rintro e w' ⟨rfl, rfl⟩
        go_wp2_with fail
        refine CU.out.mono ?_
        rintro e w' ⟨rfl, rfl⟩
        go_wp2_with fail
        go_ret
        refine ⟨by rw [HE0.out]; rfl, F, ?_, fun k hk => .inl hk, HR.out.2⟩
        unfold ownT
        rw [if_pos HE0.out, Int.toNat_natCast, Int.toNat_natCast]
        exact HR.out.1
      · have d0 : (((b.r.getD k 0 : Nat) : Int) == 0) = false := by rw [beq_eq_false_iff_ne]; omega
        have HE8 : Hid (ownE b (k : Int) x = 80) := Lib.hid (by
          rw [HE.out]
          unfold rolT
          rw [Int.toNat_natCast, show (b.r.getD k 0 == 0) = false by rw [beq_eq_false_iff_ne]; exact hz]
          rfl)
        clear h1 hH h0 h2 h3 h4 HT h5 hO hz
        generalize b.r.length = n at *
        generalize ((b.r.getD k 0 : Nat) : Int) = y at *
        go_enter Try.func9, Try.ntmps9
        go_wp2_with fail
        refine C.out.mono ?_
        rintro e w' ⟨rfl, rfl⟩
        go_wp2_with fail
        refine CU.out.mono ?_
        rintro e w' ⟨rfl, rfl⟩
        go_wp2_with fail
        go_ret
        rw [show (80 : Int) = ownE b (k : Int) x by rw [HE8.out]]
        exact HN.out (by rw [HE8.out]; decide)
end
end Go.Proofs.Ytmkadpjacidlkaa
