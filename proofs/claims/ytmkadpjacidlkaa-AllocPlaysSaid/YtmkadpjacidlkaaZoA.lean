/-
  Layer 7, plain mathematics: a device of zones as the document has it. No program is named.
-/
import Derived.Test.YtmkadpjacidlkaaMemG
namespace Go.Proofs.Ytmkadpjacidlkaa
set_option linter.unusedVariables false

/-- A zone: its bytes, how many are flushed, its state. -/
structure Zn where
  b : List UInt8
  f : Nat
  s : Nat
def zn0 : Zn := ⟨[], 0, 0⟩
/-- A device: zones, their size, how many may be open, how many commands more (if it is armed), how many were done, whether it is down. -/
structure Dev where
  zs : List Zn
  size : Nat
  opn : Nat
  arm : Option Nat
  done : Nat
  down : Bool
def rightG (z s o : Int) : Bool := decide (1 ≤ z) && decide (z ≤ 64) && decide (16 ≤ s) && decide (s ≤ 65536) && decide (1 ≤ o) && decide (o ≤ z)
theorem rightG_iff {z s o : Int} : rightG z s o = true ↔ 1 ≤ z ∧ z ≤ 64 ∧ 16 ≤ s ∧ s ≤ 65536 ∧ 1 ≤ o ∧ o ≤ z := by
  unfold rightG
  simp only [Bool.and_eq_true, decide_eq_true_eq, and_assoc]
def newM (z s o : Int) : Dev := ⟨List.replicate z.toNat zn0, s.toNat, o.toNat, none, 0, false⟩
def hasZ (m : Dev) (z : Int) : Bool := decide (0 ≤ z) && decide (z < (m.zs.length : Int))
def zoneM (m : Dev) (z : Int) : Zn := m.zs.getD z.toNat zn0
def opened (m : Dev) : Nat := m.zs.countP fun x => x.s == 1
def setZ (m : Dev) (z : Int) (x : Zn) : Dev := { m with zs := m.zs.set z.toNat x }
/-- Is one more command done? -/
def cmdM (m : Dev) : Bool := match m.arm with
  | some 0 => false
  | _ => true
def powM (m : Dev) : Dev := match m.arm with
  | none => { m with done := m.done + 1 }
  | some 0 => { m with down := true }
  | some (n + 1) => { m with arm := some n, done := m.done + 1 }
def appErr (m : Dev) (z : Int) (b : List UInt8) : Int :=
  if m.down then 74 else if !hasZ m z then 70 else if (zoneM m z).s == 2 then 71 else if (zoneM m z).s == 0 && decide (m.opn ≤ opened m) then 72
  else if decide (m.size < (zoneM m z).b.length + b.length) then 73 else 0
def appZ (m : Dev) (z : Int) (b : List UInt8) : Zn := ⟨(zoneM m z).b ++ b, (zoneM m z).f, if (zoneM m z).b.length + b.length = m.size then 2 else 1⟩
def cmdR (m : Dev) (e : Int) : Int := if e = 0 then (if cmdM m then 0 else 74) else e
def appM (m : Dev) (z : Int) (b : List UInt8) : Dev := if appErr m z b = 0 then powM (setZ m z (appZ m z b)) else m
def resErr (m : Dev) (z : Int) : Int := if m.down then 74 else if !hasZ m z then 70 else 0
def resM (m : Dev) (z : Int) : Dev := if resErr m z = 0 then (if cmdM m then powM (setZ m z zn0) else powM m) else m
def finErr (m : Dev) (z : Int) : Int := if m.down then 74 else if !hasZ m z then 70 else if (zoneM m z).s == 0 then 71 else 0
def finM (m : Dev) (z : Int) : Dev := if finErr m z = 0 then (if cmdM m then powM (setZ m z { zoneM m z with s := 2 }) else powM m) else m
def fluErr (m : Dev) : Int := if m.down then 74 else 0
def allFlushed (m : Dev) : Dev := { m with zs := m.zs.map fun x => { x with f := x.b.length } }
def fluM (m : Dev) : Dev := if fluErr m = 0 then (if cmdM m then powM (allFlushed m) else powM m) else m
def rdErr (m : Dev) (z a n : Int) : Int :=
  if m.down then 74 else if !hasZ m z then 70 else if decide (a < 0) || decide (n < 0) || decide (((zoneM m z).b.length : Int) < a + n) then 70 else 0
def rdB (m : Dev) (z a n : Int) : List UInt8 := if rdErr m z a n = 0 then ((zoneM m z).b.drop a.toNat).take n.toNat else []
def armM (m : Dev) (n : Int) : Dev := { m with arm := if n < 0 then none else some n.toNat }
def crashZ (size : Nat) (x : Zn) (k : Nat) : Zn :=
  ⟨x.b.take (x.f + min k (x.b.length - x.f)), x.f + min k (x.b.length - x.f), if x.f + min k (x.b.length - x.f) = 0 then 0 else if x.s = 2 ∨ x.f + min k (x.b.length - x.f) = size then 2 else 1⟩
def crashL (size : Nat) : List Zn → List Int → List Zn
  | [], _ => []
  | x :: xs, ks => crashZ size x (ks.headD 0).toNat :: crashL size xs ks.tail
def crashM (m : Dev) (ks : List Int) : Dev := { m with zs := crashL m.size m.zs ks, arm := none, down := false }
def stateM (m : Dev) (z : Int) : Int := if hasZ m z then ((zoneM m z).s : Int) else -1
def ptrM (m : Dev) (z : Int) : Int := if hasZ m z then ((zoneM m z).b.length : Int) else 0
def fldM (m : Dev) (z : Int) : Int := if hasZ m z then ((zoneM m z).f : Int) else 0

/-! ### What holds of every device. -/
structure ZOK (size : Nat) (x : Zn) : Prop where
  f : x.f ≤ x.b.length
  l : x.b.length ≤ size
  s : x.s ≤ 2
  e : x.s = 0 → x.b = []
  o : x.s = 1 → x.b.length < size
structure WF (m : Dev) : Prop where
  n1 : 1 ≤ m.zs.length
  n64 : m.zs.length ≤ 64
  s16 : 16 ≤ m.size
  s64 : m.size ≤ 65536
  o1 : 1 ≤ m.opn
  on : m.opn ≤ m.zs.length
  z : ∀ x ∈ m.zs, ZOK m.size x
  op : opened m ≤ m.opn
theorem hasZ_iff {m : Dev} {z : Int} : hasZ m z = true ↔ 0 ≤ z ∧ z.toNat < m.zs.length := by
  unfold hasZ
  rw [Bool.and_eq_true, decide_eq_true_eq, decide_eq_true_eq]
  omega
theorem zoneM_mem {m : Dev} {z : Int} (h : hasZ m z = true) : zoneM m z ∈ m.zs := by
  have := (hasZ_iff.1 h).2
  unfold zoneM
  rw [List.getD_eq_getElem?_getD, List.getElem?_eq_getElem this]
  exact List.getElem_mem _
theorem zn0_ok (size : Nat) : ZOK size zn0 := ⟨Nat.le_refl _, Nat.zero_le _, Nat.zero_le _, fun _ => rfl, fun h => absurd (show (0 : Nat) = 1 from h) (by omega)⟩
theorem zoneM_ok {m : Dev} (h : WF m) (z : Int) : ZOK m.size (zoneM m z) := by
  unfold zoneM
  rw [List.getD_eq_getElem?_getD]
  cases e : m.zs[z.toNat]? with
  | none => exact zn0_ok _
  | some x => exact h.z x (List.mem_of_getElem? e)
theorem wf_new {z s o : Int} (h : rightG z s o = true) : WF (newM z s o) := by
  obtain ⟨h1, h2, h3, h4, h5, h6⟩ := rightG_iff.1 h
  have e : (newM z s o).zs.length = z.toNat := by simp [newM]
  have e2 : (newM z s o).size = s.toNat := rfl
  have e3 : (newM z s o).opn = o.toNat := rfl
  refine ⟨by omega, by omega, by omega, by omega, by omega, by omega, fun x hx => ?_, ?_⟩
  · obtain rfl : x = zn0 := List.eq_of_mem_replicate hx
    exact zn0_ok _
  · have : opened (newM z s o) = 0 := by
      unfold opened
      rw [List.countP_eq_zero]
      intro x hx
      obtain rfl : x = zn0 := List.eq_of_mem_replicate hx
      simp [zn0]
    omega
theorem opened_set {m : Dev} {z : Int} (h : hasZ m z = true) (y : Zn) : opened (setZ m z y) + (if (zoneM m z).s == 1 then 1 else 0) = opened m + (if y.s == 1 then 1 else 0) := by
  have hl := (hasZ_iff.1 h).2
  unfold opened setZ zoneM
  rw [List.countP_set hl, List.getD_eq_getElem?_getD, List.getElem?_eq_getElem hl]
  simp only [Option.getD_some]
  have : (if (m.zs[z.toNat].s == 1) = true then 1 else 0) ≤ m.zs.countP fun x => x.s == 1 := by
    split
    · rename_i h1
      exact List.countP_pos_iff.2 ⟨_, List.getElem_mem hl, h1⟩
    · exact Nat.zero_le _
  omega
theorem wf_set {m : Dev} (h : WF m) {z : Int} (hz : hasZ m z = true) {y : Zn} (hy : ZOK m.size y) (ho : opened (setZ m z y) ≤ m.opn) : WF (setZ m z y) := by
  have e : (setZ m z y).zs.length = m.zs.length := by simp [setZ]
  refine ⟨by rw [e]; exact h.n1, by rw [e]; exact h.n64, h.s16, h.s64, h.o1, by rw [e]; exact h.on, fun x hx => ?_, ho⟩
  rcases List.mem_or_eq_of_mem_set hx with h1 | h1
  · exact h.z x h1
  · rw [h1]; exact hy
theorem wf_pow {m : Dev} (h : WF m) : WF (powM m) := by
  unfold powM
  split <;> exact ⟨h.n1, h.n64, h.s16, h.s64, h.o1, h.on, h.z, h.op⟩
theorem appErr_ok {m : Dev} {z : Int} {b : List UInt8} (h : appErr m z b = 0) : m.down = false ∧ hasZ m z = true ∧ (zoneM m z).s ≠ 2 ∧ ((zoneM m z).s = 0 → opened m < m.opn) ∧ (zoneM m z).b.length + b.length ≤ m.size := by
  unfold appErr at h
  split at h
  · omega
  · rename_i h1
    split at h
    · omega
    · rename_i h2
      split at h
      · omega
      · rename_i h3
        split at h
        · omega
        · rename_i h4
          split at h
          · omega
          · rename_i h5
            simp only [Bool.not_eq_true, Bool.not_eq_false', beq_eq_false_iff_ne, ne_eq, Bool.and_eq_false_iff, decide_eq_false_iff_not, Nat.not_le, Nat.not_lt] at h1 h2 h3 h4 h5
            refine ⟨h1, h2, h3, fun h6 => ?_, h5⟩
            rcases h4 with h4 | h4
            · exact absurd h6 h4
            · exact h4
theorem wf_app {m : Dev} (h : WF m) (z : Int) (b : List UInt8) : WF (appM m z b) := by
  unfold appM
  split
  · rename_i h0
    obtain ⟨h1, h2, h3, h4, h5⟩ := appErr_ok h0
    have hk := zoneM_ok h z
    have hs := opened_set h2 (appZ m z b)
    have h6 : (appZ m z b).s = if (zoneM m z).b.length + b.length = m.size then 2 else 1 := rfl
    have h7 := h.op
    refine wf_pow (wf_set h h2 ⟨?_, ?_, ?_, fun h6' => ?_, fun h6' => ?_⟩ ?_)
    · show (zoneM m z).f ≤ ((zoneM m z).b ++ b).length
      have := hk.f
      rw [List.length_append]
      omega
    · show ((zoneM m z).b ++ b).length ≤ _
      rw [List.length_append]
      exact h5
    · rw [h6]; split <;> omega
    · rw [h6] at h6'
      split at h6' <;> omega
    · rw [h6] at h6'
      show ((zoneM m z).b ++ b).length < _
      rw [List.length_append]
      split at h6' <;> omega
    · have h8 := hk.s
      rcases Nat.lt_or_ge (zoneM m z).s 1 with h9 | h9
      · have := h4 (by omega)
        rw [show ((zoneM m z).s == 1) = false by rw [beq_eq_false_iff_ne]; omega] at hs
        simp only [Bool.false_eq_true, if_false, Nat.add_zero] at hs
        split at hs <;> omega
      · rw [show ((zoneM m z).s == 1) = true by rw [beq_iff_eq]; omega] at hs
        simp only [if_true] at hs
        split at hs <;> omega
  · exact h
theorem resErr_ok {m : Dev} {z : Int} (h : resErr m z = 0) : m.down = false ∧ hasZ m z = true := by
  unfold resErr at h
  split at h
  · omega
  · rename_i h1
    split at h
    · omega
    · rename_i h2
      simp only [Bool.not_eq_true, Bool.not_eq_false'] at h1 h2
      exact ⟨h1, h2⟩
theorem opened_le {m : Dev} {z : Int} (h : hasZ m z = true) {y : Zn} (hy : y.s ≠ 1) : opened (setZ m z y) ≤ opened m := by
  have := opened_set h y
  rw [show (y.s == 1) = false by rw [beq_eq_false_iff_ne]; exact hy] at this
  simp only [Bool.false_eq_true, if_false, Nat.add_zero] at this
  omega
theorem wf_res {m : Dev} (h : WF m) (z : Int) : WF (resM m z) := by
  unfold resM
  split
  · rename_i h0
    obtain ⟨h1, h2⟩ := resErr_ok h0
    split
    · exact wf_pow (wf_set h h2 (zn0_ok _) (Nat.le_trans (opened_le h2 (by simp [zn0])) h.op))
    · exact wf_pow h
  · exact h
theorem finErr_ok {m : Dev} {z : Int} (h : finErr m z = 0) : m.down = false ∧ hasZ m z = true ∧ (zoneM m z).s ≠ 0 := by
  unfold finErr at h
  split at h
  · omega
  · rename_i h1
    split at h
    · omega
    · rename_i h2
      split at h
      · omega
      · rename_i h3
        simp only [Bool.not_eq_true, Bool.not_eq_false', beq_eq_false_iff_ne, ne_eq] at h1 h2 h3
        exact ⟨h1, h2, h3⟩
theorem wf_fin {m : Dev} (h : WF m) (z : Int) : WF (finM m z) := by
  unfold finM
  split
  · rename_i h0
    obtain ⟨h1, h2, h3⟩ := finErr_ok h0
    have hk := zoneM_ok h z
    split
    · exact wf_pow (wf_set h h2 ⟨hk.f, hk.l, Nat.le_refl _, fun h => absurd (show (2 : Nat) = 0 from h) (by omega), fun h => absurd (show (2 : Nat) = 1 from h) (by omega)⟩ (Nat.le_trans (opened_le h2 (by simp)) h.op))
    · exact wf_pow h
  · exact h
theorem opened_flu (m : Dev) : opened (allFlushed m) = opened m := by
  unfold opened allFlushed
  rw [List.countP_map]
  rfl
theorem wf_flu {m : Dev} (h : WF m) : WF (fluM m) := by
  unfold fluM
  split
  · split
    · have e : (allFlushed m).zs.length = m.zs.length := by simp [allFlushed]
      refine wf_pow ⟨by rw [e]; exact h.n1, by rw [e]; exact h.n64, h.s16, h.s64, h.o1, by rw [e]; exact h.on, fun x hx => ?_, by rw [opened_flu]; exact h.op⟩
      obtain ⟨y, hy, rfl⟩ := List.mem_map.1 hx
      have hk := h.z y hy
      exact ⟨Nat.le_refl _, hk.l, hk.s, hk.e, hk.o⟩
    · exact wf_pow h
  · exact h
theorem wf_arm {m : Dev} (h : WF m) (n : Int) : WF (armM m n) := ⟨h.n1, h.n64, h.s16, h.s64, h.o1, h.on, h.z, h.op⟩
theorem crashL_length (size : Nat) : ∀ (l : List Zn) (ks : List Int), (crashL size l ks).length = l.length
  | [], _ => rfl
  | x :: xs, ks => by
    show (crashL size xs ks.tail).length + 1 = xs.length + 1
    rw [crashL_length size xs]
theorem crashL_get (size : Nat) : ∀ (l : List Zn) (ks : List Int) (i : Nat), i < l.length → (crashL size l ks)[i]? = some (crashZ size (l.getD i zn0) (ks.getD i 0).toNat)
  | [], _, _, h => absurd h (by simp)
  | x :: xs, ks, 0, _ => by cases ks <;> rfl
  | x :: xs, ks, i + 1, h => by
    show (crashL size xs ks.tail)[i]? = _
    rw [crashL_get size xs ks.tail i (by simpa using h)]
    cases ks <;> rfl
theorem crashZ_ok {size : Nat} {x : Zn} (h : ZOK size x) (k : Nat) : ZOK size (crashZ size x k) := by
  have h1 := h.f
  have h2 := h.l
  refine ⟨?_, ?_, ?_, fun h3 => ?_, fun h3 => ?_⟩
  · show x.f + min k (x.b.length - x.f) ≤ (x.b.take (x.f + min k (x.b.length - x.f))).length
    rw [List.length_take]
    omega
  · show (x.b.take (x.f + min k (x.b.length - x.f))).length ≤ size
    rw [List.length_take]
    omega
  · show (if x.f + min k (x.b.length - x.f) = 0 then 0 else if _ then 2 else 1) ≤ 2
    split
    · omega
    · split <;> omega
  · have h3 : (if x.f + min k (x.b.length - x.f) = 0 then 0 else if x.s = 2 ∨ x.f + min k (x.b.length - x.f) = size then 2 else 1) = 0 := h3
    split at h3
    · rename_i h4
      show x.b.take (x.f + min k (x.b.length - x.f)) = []
      rw [h4, List.take_zero]
    · split at h3 <;> omega
  · have h3 : (if x.f + min k (x.b.length - x.f) = 0 then 0 else if x.s = 2 ∨ x.f + min k (x.b.length - x.f) = size then 2 else 1) = 1 := h3
    show (x.b.take (x.f + min k (x.b.length - x.f))).length < size
    rw [List.length_take]
    split at h3
    · omega
    · split at h3
      · omega
      · omega
theorem crashL_ok {size : Nat} : ∀ {l : List Zn} (ks : List Int), (∀ x ∈ l, ZOK size x) → (∀ x ∈ crashL size l ks, ZOK size x) ∧ (crashL size l ks).countP (fun x => x.s == 1) ≤ l.countP (fun x => x.s == 1)
  | [], _, _ => ⟨fun x hx => absurd hx (by simp [crashL]), Nat.le_refl _⟩
  | y :: ys, ks, h => by
    obtain ⟨h1, h2⟩ := crashL_ok (l := ys) ks.tail (fun x hx => h x (List.mem_cons_of_mem _ hx))
    have hy := h y (List.mem_cons_self ..)
    refine ⟨fun x hx => ?_, ?_⟩
    · rcases List.mem_cons.1 hx with rfl | hx
      · exact crashZ_ok hy _
      · exact h1 x hx
    · show ((crashZ size y (ks.headD 0).toNat) :: crashL size ys ks.tail).countP _ ≤ _
      rw [List.countP_cons, List.countP_cons]
      have key : ((crashZ size y (ks.headD 0).toNat).s == 1) = true → (y.s == 1) = true := fun h3 => by
        generalize (ks.headD 0).toNat = k at h3
        rw [beq_iff_eq] at h3 ⊢
        have h3 : (if y.f + min k (y.b.length - y.f) = 0 then 0 else if y.s = 2 ∨ y.f + min k (y.b.length - y.f) = size then 2 else 1) = 1 := h3
        have h4 := hy.s
        have h5 := hy.f
        split at h3
        · omega
        · rename_i h6
          split at h3
          · omega
          · rename_i h7
            rcases Nat.lt_or_ge y.s 1 with h8 | h8
            · have := hy.e (by omega)
              rw [this] at h5 h6
              simp at h5 h6
              omega
            · omega
      by_cases h3 : ((crashZ size y (ks.headD 0).toNat).s == 1) = true
      · rw [if_pos h3, if_pos (key h3)]
        omega
      · rw [if_neg h3]
        omega
theorem wf_crash {m : Dev} (h : WF m) (ks : List Int) : WF (crashM m ks) := by
  obtain ⟨h1, h2⟩ := crashL_ok ks h.z
  have e : (crashM m ks).zs.length = m.zs.length := crashL_length ..
  exact ⟨by rw [e]; exact h.n1, by rw [e]; exact h.n64, h.s16, h.s64, h.o1, by rw [e]; exact h.on, h1, Nat.le_trans h2 h.op⟩
end Go.Proofs.Ytmkadpjacidlkaa
