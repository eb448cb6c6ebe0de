/-
  Layer 6, the program's own cursor: contracts of New, First, Last, Seek, Next, Prev; 'curOK'.
-/
import Derived.Test.YtkcgdmhggndhfaaMrH
import Derived.Test.YtkcgdmhggndhfaaMgCu
namespace Go.Proofs.Ytkcgdmhggndhfaa
set_option linter.unusedVariables false
open Go.RowKit

/-- A call of a function of the program enters it. -/
theorem enters_at {P : Program} {f : FuncId} {fn : Func} {c : Code} (hf : P.funcs[f]? = some fn) (hname : (fn.name == "runtime.NumGoroutine") = false) (hb : fn.body = some c) : ∀ (args : Array Value) (w : World), (callFunc f args).run P w = .ok (.enter f args) w := by
  intro args w
  have h1 : fn.name ≠ "runtime.NumGoroutine" := by simpa using hname
  simp [callFunc, hf, h1, hb, mark]
theorem first1_c (a : Option Addr) (n cap : Nat) (w : World) : Calls Try.prog 39 (#[.slice a n cap] ++ #[]) w fun e w' => e = .returned (.int .i64 0) ∧ Fr No w w' := by
  show Calls Try.prog _ #[.slice a n cap] w _
  go_enter Try.func39, Try.ntmps39
  go_wp2_with fail
  go_ret
  exact ⟨rfl, Fr.refl _ _⟩
theorem last1_c (a : Option Addr) (n cap : Nat) (w : World) (hn : n ≤ 1000) : Calls Try.prog 41 (#[.slice a n cap] ++ #[]) w fun e w' => e = .returned (.int .i64 ((n : Int) - 1)) ∧ Fr No w w' := by
  show Calls Try.prog _ #[.slice a n cap] w _
  go_enter Try.func41, Try.ntmps41
  go_wp2_with fail
  go_ret
  exact ⟨rfl, Fr.refl _ _⟩
set_option maxHeartbeats 800000 in
theorem seek1_c (S : Nat → Prop) (a : Option Addr) (cap : Nat) (l : List P2) (kb : Nat) (k : Int) (w : World) (hl : l.length ≤ 1000) (hs : runP l = true) (hr : InP w S a l) (hk : w.cell? ⟨kb, 0, none⟩ = some (.int .i64 k)) :
    Calls Try.prog 44 (#[.slice a l.length cap] ++ #[.pointer (some ⟨kb, 0, none⟩)]) w fun e w' => e = .returned (.int .i64 (ceilP l k : Int)) ∧ Fr No w w' := by
  have HFI := Lib.hid (find_c S a cap l k w (by omega) hs hr)
  have hcl := ceil_le l k
  clear hs hr
  obtain ⟨C, hC⟩ : ∃ z, ceilP l k = z := ⟨_, rfl⟩
  obtain ⟨H, hH⟩ : ∃ z, hasP l k = z := ⟨_, rfl⟩
  obtain ⟨n, hn⟩ : ∃ z, l.length = z := ⟨_, rfl⟩
  rw [hC, hn] at hcl
  rw [hC, hH, hn] at HFI
  rw [hn] at hl
  rw [hC, hn]
  clear hC hH hn
  show Calls Try.prog _ #[.slice a n cap, .pointer (some ⟨kb, 0, none⟩)] w _
  go_enter Try.func44, Try.ntmps44
  go_wp2_with fail
  refine HFI.out.mono ?_
  rintro e w1 ⟨rfl, f1⟩
  have HF1 := Lib.hid f1
  clear f1 HFI
  go_wp2_with fail
  go_ret
  exact ⟨rfl, HF1.out⟩
set_option maxHeartbeats 800000 in
theorem prev1_c (S : Nat → Prop) (a : Option Addr) (cap : Nat) (l : List P2) (kb : Nat) (k : Int) (w : World) (hl : l.length ≤ 1000) (hs : runP l = true) (hr : InP w S a l) (hk : w.cell? ⟨kb, 0, none⟩ = some (.int .i64 k)) :
    Calls Try.prog 43 (#[.slice a l.length cap] ++ #[.pointer (some ⟨kb, 0, none⟩)]) w fun e w' => e = .returned (.int .i64 ((ceilP l k : Int) - 1)) ∧ Fr No w w' := by
  have HFI := Lib.hid (find_c S a cap l k w (by omega) hs hr)
  have hcl := ceil_le l k
  clear hs hr
  obtain ⟨C, hC⟩ : ∃ z, ceilP l k = z := ⟨_, rfl⟩
  obtain ⟨H, hH⟩ : ∃ z, hasP l k = z := ⟨_, rfl⟩
  obtain ⟨n, hn⟩ : ∃ z, l.length = z := ⟨_, rfl⟩
  rw [hC, hn] at hcl
  rw [hC, hH, hn] at HFI
  rw [hn] at hl
  rw [hC, hn]
  clear hC hH hn
  show Calls Try.prog _ #[.slice a n cap, .pointer (some ⟨kb, 0, none⟩)] w _
  go_enter Try.func43, Try.ntmps43
  go_wp2_with fail
  refine HFI.out.mono ?_
  rintro e w1 ⟨rfl, f1⟩
  have HF1 := Lib.hid f1
  clear f1 HFI
  go_wp2_with fail
  go_ret
  exact ⟨rfl, HF1.out⟩
set_option maxHeartbeats 800000 in
theorem next1_c (S : Nat → Prop) (a : Option Addr) (cap : Nat) (l : List P2) (kb : Nat) (k : Int) (w : World) (hl : l.length ≤ 1000) (hs : runP l = true) (hr : InP w S a l) (hk : w.cell? ⟨kb, 0, none⟩ = some (.int .i64 k)) :
    Calls Try.prog 42 (#[.slice a l.length cap] ++ #[.pointer (some ⟨kb, 0, none⟩)]) w fun e w' => e = .returned (.int .i64 (behindP l k : Int)) ∧ Fr No w w' := by
  have HFI := Lib.hid (find_c S a cap l k w (by omega) hs hr)
  have hcl := ceil_le l k
  clear hs hr
  obtain ⟨C, hC⟩ : ∃ z, ceilP l k = z := ⟨_, rfl⟩
  obtain ⟨H, hH⟩ : ∃ z, hasP l k = z := ⟨_, rfl⟩
  obtain ⟨n, hn⟩ : ∃ z, l.length = z := ⟨_, rfl⟩
  rw [hC, hn] at hcl
  rw [hC, hH, hn] at HFI
  rw [hn] at hl
  have HRES : Hid ((((if H then C + 1 else C : Nat) : Int)) = (behindP l k : Int)) := Lib.hid (by unfold behindP; rw [hC, hH])
  rw [hn]
  clear hC hH hn
  show Calls Try.prog _ #[.slice a n cap, .pointer (some ⟨kb, 0, none⟩)] w _
  go_enter Try.func42, Try.ntmps42
  go_wp2_with fail
  refine HFI.out.mono ?_
  rintro e w1 ⟨rfl, f1⟩
  have HF1 := Lib.hid f1
  clear f1 HFI
  cases H with
  | true =>
    go_wp2_with fail
    go_ret
    exact ⟨by rw [← HRES.out]; rfl, HF1.out⟩
  | false =>
    go_wp2_with fail
    go_ret
    exact ⟨by rw [← HRES.out]; rfl, HF1.out⟩
set_option maxHeartbeats 800000 in
theorem toLeast_c (g : Nat) (lb : Array Value) (pl : List P2 → Int) (c : Nat) (a : Option Addr) (cap : Nat) (rs : List Rn) (p0 : Option Addr) (w : World) (hn : rs.length ≤ 1000) (hs : ∀ x ∈ rs, x.l.length ≤ 1000)
    (eg : ∀ args w, (callFunc g args).run Try.prog w = .ok (.enter g args) w)
    (hfind : ∀ x ∈ rs, ∀ w', Fr (One c) w w' → Calls Try.prog g (#[.slice x.a x.l.length x.c] ++ lb) w' fun e w'' => e = .returned (.int .i64 (pl x.l)) ∧ Fr No w' w'')
    (hA : At w c 65 (cuC a rs.length cap p0)) (hr : InR w (Till c) a rs) :
    Calls Try.prog 38 #[.pointer (some ⟨c, 0, none⟩), .func (.func g) #[] lb] w (MoveEnd c a rs.length cap (bestP pl ltB (lens rs)) w) := by
  have HM := Lib.hid (move_c g 32 lb pl ltB c a cap rs p0 w hn hs eg (enters_at Try.func32 (by kernel_rfl) rfl) hfind (fun x y w => less_c x y w) hA hr)
  clear hfind hA hr hs eg
  generalize bestP pl ltB (lens rs) = R at *
  generalize rs.length = n at *
  go_enter Try.func38, Try.ntmps38
  go_wp2_with fail
  refine HM.out.mono ?_
  rintro e w1 ⟨rfl, h⟩
  have HH := Lib.hid h
  clear h HM
  go_wp2_with fail
  go_ret
  exact ⟨rfl, HH.out⟩
set_option maxHeartbeats 800000 in
theorem toGreatest_c (g : Nat) (lb : Array Value) (pl : List P2 → Int) (c : Nat) (a : Option Addr) (cap : Nat) (rs : List Rn) (p0 : Option Addr) (w : World) (hn : rs.length ≤ 1000) (hs : ∀ x ∈ rs, x.l.length ≤ 1000)
    (eg : ∀ args w, (callFunc g args).run Try.prog w = .ok (.enter g args) w)
    (hfind : ∀ x ∈ rs, ∀ w', Fr (One c) w w' → Calls Try.prog g (#[.slice x.a x.l.length x.c] ++ lb) w' fun e w'' => e = .returned (.int .i64 (pl x.l)) ∧ Fr No w' w'')
    (hA : At w c 65 (cuC a rs.length cap p0)) (hr : InR w (Till c) a rs) :
    Calls Try.prog 40 #[.pointer (some ⟨c, 0, none⟩), .func (.func g) #[] lb] w (MoveEnd c a rs.length cap (bestP pl gtB (lens rs)) w) := by
  have HM := Lib.hid (move_c g 49 lb pl gtB c a cap rs p0 w hn hs eg (enters_at Try.func49 (by kernel_rfl) rfl) hfind (fun x y w => great_c x y w) hA hr)
  clear hfind hA hr hs eg
  generalize bestP pl gtB (lens rs) = R at *
  generalize rs.length = n at *
  go_enter Try.func40, Try.ntmps40
  go_wp2_with fail
  refine HM.out.mono ?_
  rintro e w1 ⟨rfl, h⟩
  have HH := Lib.hid h
  clear h HM
  go_wp2_with fail
  go_ret
  exact ⟨rfl, HH.out⟩
/-! ### The cursor. -/
def itemO (l : List P2) (t : Int) : Option P2 := if t < 0 then none else some (l.getD t.toNat p20)
theorem itemO_some (l : List P2) (t : Int) : (itemO l t).isSome = decide (0 ≤ t) := by
  unfold itemO
  by_cases h : t < 0
  · rw [if_pos h, decide_eq_false (by omega)]; rfl
  · rw [if_neg h, decide_eq_true (by omega)]; rfl
theorem itemO_item (l : List P2) (t : Int) : itemI l t = (itemO l t).getD (0, 0) := by
  unfold itemI itemO
  by_cases h : t < 0
  · rw [if_pos h, if_neg (by omega)]; rfl
  · rw [if_neg h, if_pos (by omega)]; rfl
structure CurIn (w : World) (c : Nat) (l : List P2) (t : Int) (a : Option Addr) (cap : Nat) (rs : List Rn) (p : Option Addr) : Prop where
  at_ : At w c 65 (cuC a rs.length cap p)
  rows : InR w (Till c) a rs
  n : rs.length ≤ 10
  sz : ∀ x ∈ rs, x.l.length ≤ 100 ∧ runP x.l = true
  one : l = oneP (lens rs)
  ptr : PtrAt w c p (itemO l t)
structure CurC (w : World) (c : Nat) (X Y : Nat → Prop) (l : List P2) (t : Int) : Prop where
  ex : ∃ a cap rs p, CurIn w c l t a cap rs p
  tl : t < l.length
  tn : t < 0 → t = -1
  x : ∀ k, X k ↔ k ≤ c
  y : ∀ k, Y k ↔ k = c
theorem CurC.keep {w w' : World} {c : Nat} {X Y T : Nat → Prop} {l : List P2} {t : Int} (h : CurC w c X Y l t) (f : Fr T w w') (hn : ∀ k, X k → ¬ T k) : CurC w' c X Y l t := by
  obtain ⟨⟨a, cap, rs, p, hi⟩, h1, h2, h3, h4⟩ := h
  exact ⟨⟨a, cap, rs, p, hi.at_.keep f (hn c ((h3 c).2 (Nat.le_refl _))), hi.rows.keep f (fun k hk => hn k ((h3 k).2 (Nat.le_of_lt hk))), hi.n, hi.sz, hi.one, hi.ptr.keep f (fun k hk => hn k ((h3 k).2 (Nat.le_of_lt hk)))⟩, h1, h2, h3, h4⟩
theorem CurC.low {w : World} {c : Nat} {X Y : Nat → Prop} {l : List P2} {t : Int} (h : CurC w c X Y l t) : ∀ k, (X k ∨ Y k) → k < w.heap.size := by
  obtain ⟨⟨a, cap, rs, p, hi⟩, h1, h2, h3, h4⟩ := h
  have := hi.at_.lt
  intro k hk
  rcases hk with hk | hk
  · have := (h3 k).1 hk; omega
  · have := (h4 k).1 hk; omega
theorem CurIn.lens {w : World} {c : Nat} {l : List P2} {t : Int} {a : Option Addr} {cap : Nat} {rs : List Rn} {p : Option Addr} (h : CurIn w c l t a cap rs p) : ∀ m ∈ lens rs, SortP m := fun m hm => by
  unfold Go.Proofs.Ytkcgdmhggndhfaa.lens at hm
  obtain ⟨x, hx, rfl⟩ := List.mem_map.1 hm
  exact runP_iff.1 (h.sz x hx).2
theorem CurIn.run {w : World} {c : Nat} {l : List P2} {t : Int} {a : Option Addr} {cap : Nat} {rs : List Rn} {p : Option Addr} (h : CurIn w c l t a cap rs p) {w' : World} (f : Fr (One c) w w') {x : Rn} (hx : x ∈ rs) : InP w' (Till c) x.a x.l := by
  obtain ⟨i, hi, rfl⟩ := List.getElem_of_mem hx
  obtain ⟨b, o, hb, _, hat⟩ := (h.rows.keep f (fun k hk e => absurd e (Nat.ne_of_lt hk))) (by omega)
  exact (hat i _ (List.getElem?_eq_getElem hi)).rd
/-- Behind a move. -/
theorem moved {w w0 w' : World} {c : Nat} {X Y : Nat → Prop} {l : List P2} {t t' : Int} {a : Option Addr} {cap : Nat} {rs : List Rn} {p : Option Addr} {r : Option P2} {e : Ending} (h : CurC w c X Y l t) (hi : CurIn w c l t a cap rs p) (f0 : Fr No w w0)
    (hm : MoveEnd c a rs.length cap r w0 e w') (hr : r = itemO l t') (h1 : t' < l.length) (h2 : t' < 0 → t' = -1) : MoveRet CurC c X Y l t' w e w' := by
  obtain ⟨he, p', ha, hp, f⟩ := hm
  subst hr
  refine ⟨by rw [he, itemO_some], X, Y, ⟨⟨a, cap, rs, p', ha, (hi.rows.keep f0 (fun _ _ h => h)).keep f (fun k hk e => absurd e (Nat.ne_of_lt hk)), hi.n, hi.sz, hi.one, hp⟩, h1, h2, h.x, h.y⟩, fun _ h => .inl h, fun _ h => .inl h, ?_⟩
  exact (f0.sub fun _ _ h => h.elim).trans (f.sub fun k _ hk => (h.y k).2 hk)
/-- The place of the best, in the runs as one. -/
theorem best_item {pr : Int → Bool} {bt : Int → Int → Bool} (B : Better bt) {pl : List P2 → Int} (hp : ∀ l, SortP l → Sel pr bt l (pl l)) {rs : List Rn} (hs : ∀ m ∈ lens rs, SortP m) {t' : Int} (ht : t' = if outP (oneP (lens rs)) (pl (oneP (lens rs))) then -1 else pl (oneP (lens rs))) :
    bestP pl bt (lens rs) = itemO (oneP (lens rs)) t' := by
  rw [bestP_one B hp _ hs, ht]
  unfold itemO
  cases ho : outP (oneP (lens rs)) (pl (oneP (lens rs))) with
  | true => simp
  | false =>
    have := outP_in ho
    simp only [Bool.false_eq_true, if_false]
    rw [if_neg (by omega)]
set_option maxHeartbeats 800000 in
theorem curFirst_c {w : World} {c : Nat} {X Y : Nat → Prop} {l : List P2} {t : Int} (h : CurC w c X Y l t) : Calls Try.prog 24 #[.pointer (some ⟨c, 0, none⟩)] w (MoveRet CurC c X Y l (firstI l.length) w) := by
  obtain ⟨a, cap, rs, p, hi⟩ := h.ex
  have HM := Lib.hid (toLeast_c 39 #[] (fun _ => 0) c a cap rs p w (by have := hi.n; omega) (fun x hx => by have := (hi.sz x hx).1; omega) (enters_at Try.func39 (by kernel_rfl) rfl) (fun x hx w' f => first1_c _ _ _ _) hi.at_ hi.rows)
  have HE : Hid (∀ e w', MoveEnd c a rs.length cap (bestP (fun _ => 0) ltB (lens rs)) w e w' → MoveRet CurC c X Y l (firstI l.length) w e w') := Lib.hid fun e w' hm => by
    refine moved h hi (Fr.refl No w) hm ?_ ?_ ?_
    · rw [hi.one]
      refine best_item better_lt sel_first hi.lens ?_
      unfold firstI outP
      by_cases h0 : (oneP (lens rs)).length = 0
      · rw [if_pos h0, h0]; rfl
      · have hz : (decide ((0 : Int) < 0) || decide (((oneP (lens rs)).length : Int) ≤ 0)) = false := by rw [Bool.or_eq_false_iff, decide_eq_false_iff_not, decide_eq_false_iff_not]; omega
        rw [if_neg h0, hz]; rfl
    · unfold firstI; split <;> omega
    · unfold firstI; split <;> omega
  clear h hi
  go_enter Try.func24, Try.ntmps24
  go_wp2_with fail
  refine HM.out.mono ?_
  intro e w1 hm
  have HH := Lib.hid (HE.out e w1 hm)
  obtain ⟨rfl, _⟩ := hm
  clear HM HE
  go_wp2_with fail
  go_ret
  exact HH.out
set_option maxHeartbeats 800000 in
theorem curLast_c {w : World} {c : Nat} {X Y : Nat → Prop} {l : List P2} {t : Int} (h : CurC w c X Y l t) : Calls Try.prog 25 #[.pointer (some ⟨c, 0, none⟩)] w (MoveRet CurC c X Y l ((l.length : Int) - 1) w) := by
  obtain ⟨a, cap, rs, p, hi⟩ := h.ex
  have HM := Lib.hid (toGreatest_c 41 #[] (fun l => (l.length : Int) - 1) c a cap rs p w (by have := hi.n; omega) (fun x hx => by have := (hi.sz x hx).1; omega) (enters_at Try.func41 (by kernel_rfl) rfl) (fun x hx w' f => last1_c _ _ _ _ (by have := (hi.sz x hx).1; omega)) hi.at_ hi.rows)
  have HE : Hid (∀ e w', MoveEnd c a rs.length cap (bestP (fun l => (l.length : Int) - 1) gtB (lens rs)) w e w' → MoveRet CurC c X Y l ((l.length : Int) - 1) w e w') := Lib.hid fun e w' hm => by
    refine moved h hi (Fr.refl No w) hm ?_ ?_ ?_
    · rw [hi.one]
      refine best_item better_gt sel_last hi.lens ?_
      unfold outP
      by_cases h0 : (oneP (lens rs)).length = 0
      · rw [h0]; rfl
      · rw [if_neg (by simp; omega)]
    · omega
    · omega
  clear h hi
  go_enter Try.func25, Try.ntmps25
  go_wp2_with fail
  refine HM.out.mono ?_
  intro e w1 hm
  have HH := Lib.hid (HE.out e w1 hm)
  obtain ⟨rfl, _⟩ := hm
  clear HM HE
  go_wp2_with fail
  go_ret
  exact HH.out
theorem seekI_out (l : List P2) (k : Int) : seekI l k = if outP l (ceilP l k : Int) then -1 else (ceilP l k : Int) := by
  unfold seekI outP
  by_cases h : ceilP l k < l.length
  · rw [if_pos h, if_neg (by simp; omega)]
  · rw [if_neg h, if_pos (by simp; omega)]
theorem nextI_out {l : List P2} (hs : SortP l) {t : Nat} (ht : t < l.length) : nextI l.length (t : Int) = if outP l (behindP l (l.getD t p20).1 : Int) then -1 else (behindP l (l.getD t p20).1 : Int) := by
  rw [behind_at hs ht]
  unfold nextI outP
  rw [if_neg (by omega)]
  by_cases h : (t : Int) + 1 < l.length
  · rw [if_pos h, if_neg (by simp; omega)]
    omega
  · rw [if_neg h, if_pos (by simp; omega)]
theorem prevI_out {l : List P2} (hs : SortP l) {t : Nat} (ht : t < l.length) : prevI (t : Int) = if outP l ((ceilP l (l.getD t p20).1 : Int) - 1) then -1 else ((ceilP l (l.getD t p20).1 : Int) - 1) := by
  rw [ceil_at hs ht]
  unfold prevI outP
  rw [if_neg (by omega)]
  by_cases h : t = 0
  · subst h; rfl
  · rw [if_neg (by simp; omega)]
set_option maxHeartbeats 800000 in
theorem curSeek_c {w : World} {c : Nat} {X Y : Nat → Prop} {l : List P2} {t : Int} (k : Int) (h : CurC w c X Y l t) : Calls Try.prog 28 #[.pointer (some ⟨c, 0, none⟩), .int .i64 k] w (MoveRet CurC c X Y l (seekI l k) w) := by
  obtain ⟨a, cap, rs, p, hi⟩ := h.ex
  have f0 := (Fr.refl No w).alloc (.cells #[.int .i64 k] 3)
  have hlt := hi.at_.lt
  have HK : Hid (∀ w', Fr (One c) (w.alloc (.cells #[.int .i64 k] 3)) w' → w'.cell? ⟨w.heap.size, 0, none⟩ = some (.int .i64 k)) := Lib.hid fun w' f => f.cell ((At.new w 3 #[.int .i64 k]).cell 0) (fun e => absurd (show w.heap.size = c from e) (by omega))
  have HM := Lib.hid (toLeast_c 44 #[.pointer (some ⟨w.heap.size, 0, none⟩)] (fun l => (ceilP l k : Int)) c a cap rs p (w.alloc (.cells #[.int .i64 k] 3)) (by have := hi.n; omega) (fun x hx => by have := (hi.sz x hx).1; omega) (enters_at Try.func44 (by kernel_rfl) rfl)
    (fun x hx w' f => seek1_c (Till c) x.a x.c x.l w.heap.size k w' (by have := (hi.sz x hx).1; omega) (hi.sz x hx).2 (hi.run ((f0.sub fun _ _ h => h.elim).trans f) hx) (HK.out w' f)) (hi.at_.keep f0 (fun h => h)) (hi.rows.keep f0 (fun _ _ h => h)))
  have HE : Hid (∀ e w', MoveEnd c a rs.length cap (bestP (fun l => (ceilP l k : Int)) ltB (lens rs)) (w.alloc (.cells #[.int .i64 k] 3)) e w' → MoveRet CurC c X Y l (seekI l k) w e w') := Lib.hid fun e w' hm => by
    refine moved h hi f0 hm ?_ ?_ ?_
    · rw [hi.one]
      exact best_item better_lt (sel_seek k) hi.lens (seekI_out _ k)
    · unfold seekI; split <;> omega
    · unfold seekI; split <;> omega
  clear h hi hlt HK f0
  go_enter Try.func28, Try.ntmps28
  go_wp2_with fail
  refine HM.out.mono ?_
  intro e w1 hm
  have HH := Lib.hid (HE.out e w1 hm)
  obtain ⟨rfl, _⟩ := hm
  clear HM HE
  go_wp2_with fail
  go_ret
  exact HH.out
set_option maxRecDepth 20000 in
set_option maxHeartbeats 1600000 in
theorem curNext_c {w : World} {c : Nat} {X Y : Nat → Prop} {l : List P2} {t : Int} (h : CurC w c X Y l t) : Calls Try.prog 26 #[.pointer (some ⟨c, 0, none⟩)] w (MoveRet CurC c X Y l (nextI l.length t) w) := by
  obtain ⟨a, cap, rs, p, hi⟩ := h.ex
  have HV := Lib.hid (valid_c c a rs.length cap p w hi.at_)
  have hp := hi.ptr
  have c1 := hi.at_.cell 1
  simp [cuC] at c1
  by_cases ht : t < 0
  · obtain rfl := h.tn ht
    obtain rfl : p = none := hp
    have HH : Hid (MoveRet CurC c X Y l (nextI l.length (-1)) w (.returned (.bool false)) w) := Lib.hid ⟨rfl, X, Y, h, fun _ h => .inl h, fun _ h => .inl h, Fr.refl _ _⟩
    clear h hi ht
    go_enter Try.func26, Try.ntmps26
    go_wp2_with fail
    refine HV.out.mono ?_
    rintro e w1 ⟨rfl, rfl⟩
    rw [show (none : Option Addr).isSome = false from rfl]
    go_wp2_with fail
    go_ret
    exact HH.out
  · have htl := h.tl
    obtain ⟨u, rfl⟩ : ∃ u : Nat, t = (u : Int) := ⟨t.toNat, by omega⟩
    have hO : itemO l (u : Int) = some (l.getD u p20) := by unfold itemO; rw [if_neg ht]; rfl
    rw [hO] at hp
    obtain ⟨b, o, _, rfl, k0, _⟩ := hp
    obtain ⟨k, hk⟩ : ∃ k, (l.getD u p20).1 = k := ⟨_, rfl⟩
    rw [hk] at k0
    have hlt := hi.at_.lt
    have f0 : Fr No w (w.alloc (.cells #[.int .i64 k] 3)) := (Fr.refl No w).alloc _
    have HK : Hid (∀ w', Fr (One c) (w.alloc (.cells #[.int .i64 k] 3)) w' → w'.cell? ⟨w.heap.size, 0, none⟩ = some (.int .i64 k)) := Lib.hid fun w' f => f.cell ((At.new w 3 #[.int .i64 k]).cell 0) (fun e => absurd (show w.heap.size = c from e) (by omega))
    have hA0 := hi.at_.keep f0 (fun h => h)
    have hR0 := hi.rows.keep f0 (fun _ _ h => h)
    have HRUN : Hid (∀ w', Fr (One c) (w.alloc (.cells #[.int .i64 k] 3)) w' → ∀ x ∈ rs, InP w' (Till c) x.a x.l) := Lib.hid fun w' f x hx => hi.run ((f0.sub fun _ _ h => h.elim).trans f) hx
    have HSO : Hid (SortP l) := Lib.hid (by rw [hi.one]; exact oneP_sort _)
    have HE : Hid (∀ e w', MoveEnd c a rs.length cap (bestP (fun l => (behindP l k : Int)) ltB (lens rs)) (w.alloc (.cells #[.int .i64 k] 3)) e w' → MoveRet CurC c X Y l (nextI l.length (u : Int)) w e w') := Lib.hid fun e w' hm => by
      refine moved h hi f0 hm ?_ ?_ ?_
      · have hon := hi.one
        rw [hon]
        refine best_item better_lt (sel_next k) hi.lens ?_
        rw [← hon, ← hk]
        exact nextI_out HSO.out (by omega)
      · unfold nextI; rw [if_neg ht]; split <;> omega
      · unfold nextI; rw [if_neg ht]; split <;> omega
    have HM := Lib.hid (toLeast_c 42 #[.pointer (some ⟨w.heap.size, 0, none⟩)] (fun l => (behindP l k : Int)) c a cap rs _ (w.alloc (.cells #[.int .i64 k] 3)) (by have := hi.n; omega) (fun x hx => by have := (hi.sz x hx).1; omega) (enters_at Try.func42 (by kernel_rfl) rfl)
      (fun x hx w' f => next1_c (Till c) x.a x.c x.l w.heap.size k w' (by have := (hi.sz x hx).1; omega) (hi.sz x hx).2 (HRUN.out w' f x hx) (HK.out w' f)) hA0 hR0)
    clear h hi hlt HK f0 hA0 hR0 HRUN HSO hO ht htl hk
    go_enter Try.func26, Try.ntmps26
    go_wp2_with fail
    refine HV.out.mono ?_
    rintro e w1 ⟨rfl, rfl⟩
    rw [show (some (⟨b, o, none⟩ : Addr)).isSome = true from rfl]
    go_wp2_with fail
    refine HM.out.mono ?_
    intro e w1 hm
    have HH := Lib.hid (HE.out e w1 hm)
    obtain ⟨rfl, _⟩ := hm
    clear HM HE
    go_wp2_with fail
    go_ret
    exact HH.out
set_option maxRecDepth 20000 in
set_option maxHeartbeats 1600000 in
theorem curPrev_c {w : World} {c : Nat} {X Y : Nat → Prop} {l : List P2} {t : Int} (h : CurC w c X Y l t) : Calls Try.prog 27 #[.pointer (some ⟨c, 0, none⟩)] w (MoveRet CurC c X Y l (prevI t) w) := by
  obtain ⟨a, cap, rs, p, hi⟩ := h.ex
  have HV := Lib.hid (valid_c c a rs.length cap p w hi.at_)
  have hp := hi.ptr
  have c1 := hi.at_.cell 1
  simp [cuC] at c1
  by_cases ht : t < 0
  · obtain rfl := h.tn ht
    obtain rfl : p = none := hp
    have HH : Hid (MoveRet CurC c X Y l (prevI (-1)) w (.returned (.bool false)) w) := Lib.hid ⟨rfl, X, Y, h, fun _ h => .inl h, fun _ h => .inl h, Fr.refl _ _⟩
    clear h hi ht
    go_enter Try.func27, Try.ntmps27
    go_wp2_with fail
    refine HV.out.mono ?_
    rintro e w1 ⟨rfl, rfl⟩
    rw [show (none : Option Addr).isSome = false from rfl]
    go_wp2_with fail
    go_ret
    exact HH.out
  · have htl := h.tl
    obtain ⟨u, rfl⟩ : ∃ u : Nat, t = (u : Int) := ⟨t.toNat, by omega⟩
    have hO : itemO l (u : Int) = some (l.getD u p20) := by unfold itemO; rw [if_neg ht]; rfl
    rw [hO] at hp
    obtain ⟨b, o, _, rfl, k0, _⟩ := hp
    obtain ⟨k, hk⟩ : ∃ k, (l.getD u p20).1 = k := ⟨_, rfl⟩
    rw [hk] at k0
    have hlt := hi.at_.lt
    have f0 : Fr No w (w.alloc (.cells #[.int .i64 k] 3)) := (Fr.refl No w).alloc _
    have HK : Hid (∀ w', Fr (One c) (w.alloc (.cells #[.int .i64 k] 3)) w' → w'.cell? ⟨w.heap.size, 0, none⟩ = some (.int .i64 k)) := Lib.hid fun w' f => f.cell ((At.new w 3 #[.int .i64 k]).cell 0) (fun e => absurd (show w.heap.size = c from e) (by omega))
    have hA0 := hi.at_.keep f0 (fun h => h)
    have hR0 := hi.rows.keep f0 (fun _ _ h => h)
    have HRUN : Hid (∀ w', Fr (One c) (w.alloc (.cells #[.int .i64 k] 3)) w' → ∀ x ∈ rs, InP w' (Till c) x.a x.l) := Lib.hid fun w' f x hx => hi.run ((f0.sub fun _ _ h => h.elim).trans f) hx
    have HSO : Hid (SortP l) := Lib.hid (by rw [hi.one]; exact oneP_sort _)
    have HE : Hid (∀ e w', MoveEnd c a rs.length cap (bestP (fun l => (ceilP l k : Int) - 1) gtB (lens rs)) (w.alloc (.cells #[.int .i64 k] 3)) e w' → MoveRet CurC c X Y l (prevI (u : Int)) w e w') := Lib.hid fun e w' hm => by
      refine moved h hi f0 hm ?_ ?_ ?_
      · have hon := hi.one
        rw [hon]
        refine best_item better_gt (sel_prev k) hi.lens ?_
        rw [← hon, ← hk]
        exact prevI_out HSO.out (by omega)
      · unfold prevI; rw [if_neg ht]; omega
      · unfold prevI; rw [if_neg ht]; omega
    have HM := Lib.hid (toGreatest_c 43 #[.pointer (some ⟨w.heap.size, 0, none⟩)] (fun l => (ceilP l k : Int) - 1) c a cap rs _ (w.alloc (.cells #[.int .i64 k] 3)) (by have := hi.n; omega) (fun x hx => by have := (hi.sz x hx).1; omega) (enters_at Try.func43 (by kernel_rfl) rfl)
      (fun x hx w' f => prev1_c (Till c) x.a x.c x.l w.heap.size k w' (by have := (hi.sz x hx).1; omega) (hi.sz x hx).2 (HRUN.out w' f x hx) (HK.out w' f)) hA0 hR0)
    clear h hi hlt HK f0 hA0 hR0 HRUN HSO hO ht htl hk
    go_enter Try.func27, Try.ntmps27
    go_wp2_with fail
    refine HV.out.mono ?_
    rintro e w1 ⟨rfl, rfl⟩
    rw [show (some (⟨b, o, none⟩ : Addr)).isSome = true from rfl]
    go_wp2_with fail
    refine HM.out.mono ?_
    intro e w1 hm
    have HH := Lib.hid (HE.out e w1 hm)
    obtain ⟨rfl, _⟩ := hm
    clear HM HE
    go_wp2_with fail
    go_ret
    exact HH.out
set_option maxRecDepth 20000 in
set_option maxHeartbeats 1600000 in
theorem curNew_c (S : Nat → Prop) (a : Option Addr) (cap : Nat) (rs : List Rn) (w : World) (hl : rs.length ≤ 10) (hs : ∀ x ∈ rs, x.l.length ≤ 100) (hr : InR w S a rs) :
    Calls Try.prog 22 #[.slice a rs.length cap] w fun e w' => Fr No w w' ∧ (runsR rs = false → e = .returned (.tuple #[.pointer none, .int .i64 31])) ∧
      (runsR rs = true → ∃ c X Y, e = .returned (.tuple #[.pointer (some ⟨c, 0, none⟩), .int .i64 0]) ∧ CurC w' c X Y (oneP (lens rs)) (-1) ∧ ∀ k, Y k → w.heap.size ≤ k) := by
  have HCK := Lib.hid (checkAll_c S a cap rs w (by omega) (fun x hx => by have := hs x hx; omega) hr)
  cases h : runsR rs with
  | false =>
    rw [h] at HCK
    clear h hr
    generalize hn : rs.length = n at *
    go_enter Try.func22, Try.ntmps22
    go_wp2_with fail
    refine HCK.out.mono ?_
    rintro e w1 ⟨rfl, f1⟩
    have HF1 := Lib.hid f1
    clear f1
    unfold okN
    go_wp2_with fail
    go_ret2
    exact ⟨HF1.out, fun _ => rfl, fun h => by cases h⟩
  | true =>
    rw [h] at HCK
    have HCL : Hid (∀ w', Fr No w w' → Calls Try.prog 37 #[.slice a rs.length cap] w' (CloneRet rs w')) := Lib.hid fun w' f => cloneRuns_c S a cap rs w' (by omega) (hr.keep f (fun _ _ h => h))
    have HEND : Hid (∀ w2 a' c', Fr No w w2 → InR w2 (Till w2.heap.size) a' rs → CurC (w2.alloc (.cells #[.slice a' rs.length c', .pointer none] 65)) w2.heap.size (fun k => k ≤ w2.heap.size) (One w2.heap.size) (oneP (lens rs)) (-1)) := Lib.hid fun w2 a' c' f hi => by
      refine ⟨⟨a', c', rs, none, At.new w2 _ _, hi.keep ((Fr.refl No w2).alloc _) (fun _ _ h => h), hl, fun x hx => ⟨hs x hx, ?_⟩, rfl, rfl⟩, by omega, fun _ => rfl, fun k => Iff.rfl, fun k => Iff.rfl⟩
      unfold runsR at h
      rw [List.all_eq_true] at h
      exact h x hx
    clear h hr
    generalize hn : rs.length = n at *
    go_enter Try.func22, Try.ntmps22
    go_wp2_with fail
    refine HCK.out.mono ?_
    rintro e w1 ⟨rfl, f1⟩
    have HF1 := Lib.hid f1
    clear f1
    unfold okN
    go_wp2_with fail
    refine (HCL.out _ HF1.out).mono ?_
    rintro e w2 ⟨a', c', rfl, h1, h2, h3, f2⟩
    rw [hn]
    have HF2 := Lib.hid (HF1.out.trans f2)
    have HC := Lib.hid (HEND.out w2 a' c' HF2.out h3)
    clear f2 h1 h2 h3 HEND
    go_wp2_with fail
    go_ret2
    refine ⟨HF2.out.alloc _, ?_, ?_⟩
    · intro h
      cases h
    · intro _
      exact ⟨w2.heap.size, _, _, rfl, HC.out, fun k hk => by rw [show k = w2.heap.size from hk]; exact HF2.out.size⟩
theorem curOK : CurOK CurC where
  keep := fun h f hn => h.keep f hn
  low := fun h => h.low
  new := fun S a cap rs w h1 h2 _ _ hr => curNew_c S a cap rs w h1 h2 hr
  valid := fun {w c X Y l t} h => by
    obtain ⟨a, cap, rs, p, hi⟩ := h.ex
    refine (valid_c c a rs.length cap p w hi.at_).mono ?_
    rintro e w' ⟨rfl, rfl⟩
    exact ⟨by rw [hi.ptr.isSome, itemO_some], Fr.refl _ _⟩
  item := fun {w c X Y l t} h => by
    obtain ⟨a, cap, rs, p, hi⟩ := h.ex
    exact item_c c c a rs.length cap p _ w hi.at_ hi.ptr _ (itemO_item l t)
  first := fun h => curFirst_c h
  last := fun h => curLast_c h
  next := fun h => curNext_c h
  prev := fun h => curPrev_c h
  seek := fun k h => curSeek_c k h
end Go.Proofs.Ytkcgdmhggndhfaa
