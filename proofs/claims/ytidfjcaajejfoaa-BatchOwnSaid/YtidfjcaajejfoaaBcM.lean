/-
  Layer 10, mathematics: what is read of bytes is a batch just if these are its bytes.
-/
import Derived.Test.YtidfjcaajejfoaaBaX
import Derived.Test.YtidfjcaajejfoaaWireEn
namespace Go.Proofs.Ytidfjcaajejfoaa
set_option linter.unusedVariables false

theorem dec_pos : ∀ (f i : Nat) (l : List UInt8) (n s : Nat), 0 < i → dec f i l = some (n, s) → 0 < n := by
  intro f
  induction f with
  | zero => intro i l n s _ h; cases l <;> simp [dec] at h
  | succ f ih =>
    intro i l n s hi h
    cases l with
    | nil => rw [dec_nil] at h; cases h
    | cons c r =>
      rw [dec_cons] at h
      by_cases h1 : c.toNat < 128
      · rw [if_pos h1] at h
        by_cases h2 : c.toNat = 0 ∧ 0 < i
        · rw [if_pos h2] at h; cases h
        · rw [if_neg h2] at h
          simp only [Option.some.injEq, Prod.mk.injEq] at h
          omega
      · rw [if_neg h1] at h
        cases hd : dec f (i + 1) r with
        | none => rw [hd] at h; cases h
        | some p =>
          rw [hd] at h
          have := ih (i + 1) r p.1 p.2 (by omega) hd
          simp only [Option.map_some, Option.some.injEq, Prod.mk.injEq] at h
          omega
theorem dec_canon : ∀ (f i : Nat) (l : List UInt8) (n s : Nat), dec f i l = some (n, s) → l = enc n ++ l.drop s := by
  intro f
  induction f with
  | zero => intro i l n s h; cases l <;> simp [dec] at h
  | succ f ih =>
    intro i l n s h
    cases l with
    | nil => rw [dec_nil] at h; cases h
    | cons c r =>
      rw [dec_cons] at h
      have hc := c.toNat_lt
      by_cases h1 : c.toNat < 128
      · rw [if_pos h1] at h
        by_cases h2 : c.toNat = 0 ∧ 0 < i
        · rw [if_pos h2] at h; cases h
        · rw [if_neg h2] at h
          simp only [Option.some.injEq, Prod.mk.injEq] at h
          obtain ⟨rfl, rfl⟩ := h
          rw [enc_small h1]
          simp
      · rw [if_neg h1] at h
        cases hd : dec f (i + 1) r with
        | none => rw [hd] at h; cases h
        | some p =>
          rw [hd] at h
          have hp := dec_pos f (i + 1) r p.1 p.2 (by omega) hd
          have hr := ih (i + 1) r p.1 p.2 hd
          simp only [Option.map_some, Option.some.injEq, Prod.mk.injEq] at h
          obtain ⟨rfl, rfl⟩ := h
          rw [enc_big (by omega)]
          have e1 : (c.toNat - 128 + 128 * p.1) / 128 = p.1 := by omega
          have e2 : (c.toNat - 128 + 128 * p.1) % 128 + 128 = c.toNat := by omega
          rw [e1, e2, List.drop_succ_cons, List.cons_append, ← hr]
          simp
theorem numS_back {l r : List UInt8} {n : Nat} (h : numS (l, false) = (n, (r, false))) : l = enc n ++ r ∧ n < 9223372036854775808 := by
  unfold numS at h
  simp only at h
  cases hd : dec 9 0 l with
  | none => rw [hd] at h; simp at h
  | some p =>
    rw [hd] at h
    simp only [Bool.false_eq_true, if_false, Prod.mk.injEq, and_true] at h
    obtain ⟨rfl, rfl⟩ := h
    exact ⟨dec_canon 9 0 l p.1 p.2 hd, (dec_lt9 l p.1 p.2 hd).2.2.2⟩
theorem textS_back {l t r : List UInt8} (h : textS (l, false) = (t, (r, false))) : l = enc t.length ++ (t ++ r) := by
  unfold textS at h
  simp only at h
  cases hd : dec 9 0 l with
  | none => rw [hd] at h; simp at h
  | some p =>
    rw [hd] at h
    simp only at h
    unfold takeS at h
    simp only at h
    by_cases hb : false = true ∨ (p.1 : Int) < 0 ∨ (l.length : Int) - (p.2 : Int) < (p.1 : Int)
    · rw [if_pos hb] at h; simp at h
    · rw [if_neg hb] at h
      simp only [Prod.mk.injEq, and_true, Int.toNat_natCast] at h
      obtain ⟨rfl, rfl⟩ := h
      have hc := dec_canon 9 0 l p.1 p.2 hd
      have hl := dec_lt9 l p.1 p.2 hd
      have e : ((l.drop p.2).take p.1).length = p.1 := by
        rw [List.length_take, List.length_drop]
        omega
      rw [e, ← List.drop_drop, List.take_append_drop]
      exact hc
theorem numS_keeps (l : List UInt8) (b : Bool) : (numS (l, b)).2.2 = false → b = false := by
  intro h
  cases b
  · rfl
  · rw [numS_bad] at h; cases h
theorem textS_keeps (l : List UInt8) (b : Bool) : (textS (l, b)).2.2 = false → b = false := by
  intro h
  cases b
  · rfl
  · rw [textS_bad] at h; cases h
theorem byteS_keeps (l : List UInt8) (b : Bool) : (byteS (l, b)).2.2 = false → b = false := by
  intro h
  cases b
  · rfl
  · rw [byteS_bad] at h; cases h
theorem byteS_back {l r : List UInt8} {c : UInt8} (h : byteS (l, false) = (c, (r, false))) : l = c :: r := by
  unfold byteS at h
  cases l with
  | nil => simp at h
  | cons x l =>
    simp only [Bool.false_eq_true, if_false, Prod.mk.injEq, and_true] at h
    rw [h.1, h.2]
theorem byteS_c0 (l : List UInt8) (b : Bool) : (byteS (l, b)).2.2 = true → (byteS (l, b)).1 = 0 := by
  intro h
  unfold byteS at h ⊢
  cases b <;> cases l <;> simp_all

/-- An op, read. -/
def opS (st : St) : Op10 × St :=
  if (byteS st).1 = 1 then (⟨1, strOf (textS (byteS st).2).1, strOf (textS (textS (byteS st).2).2).1⟩, (textS (textS (byteS st).2).2).2)
  else (⟨((byteS st).1.toNat : Int), strOf (textS (byteS st).2).1, ByteArray.empty⟩, (textS (byteS st).2).2)
def opsS : Nat → St → List Op10 × St
  | 0, st => ([], st)
  | n + 1, st => ((opsS n st).1 ++ [(opS (opsS n st).2).1], (opS (opsS n st).2).2)
theorem bs_strOf (l : List UInt8) : bs (strOf l) = l := by simp [bs, strOf]
theorem size_strOf (l : List UInt8) : (strOf l).size = l.length := by
  rw [← bs_length, bs_strOf]
theorem strOf_bs (s : ByteArray) : strOf (bs s) = s := by
  rcases s with ⟨⟨l⟩⟩
  rfl
theorem opS_good {l r : List UInt8} {b : Bool} {x : Op10} (h : opS (l, b) = (x, (r, false))) : b = false ∧ l = opB x ++ r := by
  unfold opS at h
  obtain ⟨c, hc⟩ : ∃ c, (byteS (l, b)).1 = c := ⟨_, rfl⟩
  obtain ⟨s1, hs1⟩ : ∃ s, (byteS (l, b)).2 = s := ⟨_, rfl⟩
  have e1 : byteS (l, b) = (c, s1) := by rw [← hc, ← hs1]
  rw [hc, hs1] at h
  obtain ⟨l1, b1⟩ := s1
  obtain ⟨k, hk⟩ : ∃ k, (textS (l1, b1)).1 = k := ⟨_, rfl⟩
  obtain ⟨s2, hs2⟩ : ∃ s, (textS (l1, b1)).2 = s := ⟨_, rfl⟩
  have e2 : textS (l1, b1) = (k, s2) := by rw [← hk, ← hs2]
  rw [hk, hs2] at h
  obtain ⟨l2, b2⟩ := s2
  have fin : b2 = false → b = false ∧ l = c :: (enc k.length ++ (k ++ l2)) := fun hb2 => by
    subst hb2
    have hb1 := textS_keeps l1 b1 (by rw [e2])
    subst hb1
    have hb := byteS_keeps l b (by rw [e1])
    subst hb
    rw [byteS_back e1, textS_back e2]
    exact ⟨rfl, rfl⟩
  by_cases h1 : c = 1
  · rw [if_pos h1] at h
    obtain ⟨v, hv⟩ : ∃ v, (textS (l2, b2)).1 = v := ⟨_, rfl⟩
    obtain ⟨s3, hs3⟩ : ∃ s, (textS (l2, b2)).2 = s := ⟨_, rfl⟩
    have e3 : textS (l2, b2) = (v, s3) := by rw [← hv, ← hs3]
    rw [hv, hs3] at h
    simp only [Prod.mk.injEq] at h
    obtain ⟨rfl, rfl⟩ := h
    have hb2 := textS_keeps l2 b2 (by rw [e3])
    subst hb2
    obtain ⟨rfl, hl⟩ := fin rfl
    refine ⟨rfl, ?_⟩
    rw [hl, textS_back e3]
    unfold opB textB
    rw [if_pos rfl, bs_strOf, bs_strOf, size_strOf, size_strOf]
    simp only [List.cons_append, List.append_assoc]
    congr 1
  · rw [if_neg h1] at h
    simp only [Prod.mk.injEq] at h
    obtain ⟨rfl, rfl, rfl⟩ := h
    obtain ⟨rfl, hl⟩ := fin rfl
    refine ⟨rfl, ?_⟩
    rw [hl]
    unfold opB textB kindB
    have hne : ¬ ((c.toNat : Int) = 1) := fun h => h1 (by
      have : c.toNat = 1 := by omega
      exact UInt8.toNat_inj.1 this)
    rw [if_neg hne, bs_strOf, size_strOf]
    simp
theorem opsS_good : ∀ (n : Nat) {l r : List UInt8} {b : Bool} {x : List Op10}, opsS n (l, b) = (x, (r, false)) → b = false ∧ l = opsB x ++ r ∧ x.length = n
  | 0, l, r, b, x, h => by
    simp only [opsS, Prod.mk.injEq] at h
    obtain ⟨rfl, rfl, rfl⟩ := h
    exact ⟨rfl, rfl, rfl⟩
  | n + 1, l, r, b, x, h => by
    unfold opsS at h
    simp only [Prod.mk.injEq] at h
    obtain ⟨hx, hst⟩ := h
    obtain ⟨y, hy⟩ : ∃ y, (opsS n (l, b)).1 = y := ⟨_, rfl⟩
    obtain ⟨s1, hs1⟩ : ∃ s, (opsS n (l, b)).2 = s := ⟨_, rfl⟩
    have e1 : opsS n (l, b) = (y, s1) := by rw [← hy, ← hs1]
    rw [hs1] at hst hx
    rw [hy] at hx
    obtain ⟨l1, b1⟩ := s1
    obtain ⟨z, hz⟩ : ∃ z, (opS (l1, b1)).1 = z := ⟨_, rfl⟩
    have e2 : opS (l1, b1) = (z, (r, false)) := by rw [← hz, ← hst]
    obtain ⟨hb1, hl1⟩ := opS_good e2
    subst hb1
    obtain ⟨hb, hl, hlen⟩ := opsS_good n e1
    refine ⟨hb, ?_, ?_⟩
    · rw [hl, hl1, ← hx, hz, opsB_append, opsB_one, List.append_assoc]
    · rw [← hx, List.length_append, hlen]; rfl
theorem opS_enc {x : Op10} (hx : rightO x = true) (r : List UInt8) : opS (opB x ++ r, false) = (x, (r, false)) := by
  obtain ⟨h1, h2, h3, h4⟩ := rightO_parts hx
  obtain ⟨k, s, v⟩ := x
  simp only at h1 h2 h3 h4
  have e2 : ∀ (s : ByteArray) (q : List UInt8), s.size ≤ 4096 → textS (textB s ++ q, false) = (bs s, (q, false)) := fun s q h => by
    unfold textB
    rw [List.append_assoc, ← bs_length]
    exact textS_enc (bs s) q (by rw [bs_length]; omega)
  unfold opS opB
  simp only [List.cons_append, List.append_assoc, byteS_enc]
  rcases h4 with rfl | ⟨rfl, h5⟩
  · have hk : kindB 1 = 1 := rfl
    rw [hk, if_pos rfl, if_pos rfl, e2 s _ (by omega)]
    simp only
    rw [e2 v _ h3, strOf_bs, strOf_bs]
  · have hk : kindB 2 = 2 := rfl
    rw [hk, if_neg (by decide), if_neg (by decide), List.nil_append, e2 s _ (by omega)]
    simp only [strOf_bs]
    rw [size_zero h5]
    rfl
theorem opsS_enc : ∀ (x : List Op10) (r : List UInt8), (∀ y ∈ x, rightO y = true) → opsS x.length (opsB x ++ r, false) = (x, (r, false)) := by
  intro x
  induction hn : x.length generalizing x with
  | zero =>
    intro r _
    rw [List.eq_nil_of_length_eq_zero hn]
    rfl
  | succ n ih =>
    intro r h
    obtain ⟨y, z, rfl⟩ : ∃ y z, x = y ++ [z] := ⟨x.dropLast, x.getLast (by intro h; rw [h] at hn; cases hn), (List.dropLast_concat_getLast _).symm⟩
    have hy : y.length = n := by simpa using hn
    unfold opsS
    rw [opsB_append, opsB_one, List.append_assoc, ih y hy (opB z ++ r) fun w hw => h w (by simp [hw])]
    simp only
    rw [opS_enc (h z (by simp)) r]
/-- What is read of bytes. -/
def parseP (b : List UInt8) : Option (Int × List Op10) :=
  if 64 < (numS (numS (b, false)).2).1 then none
  else if doneI (opsS (numS (numS (b, false)).2).1 (numS (numS (b, false)).2).2).2 = 0 ∧ allO ((numS (b, false)).1 : Int) (opsS (numS (numS (b, false)).2).1 (numS (numS (b, false)).2).2).1 = true
    then some (((numS (b, false)).1 : Int), (opsS (numS (numS (b, false)).2).1 (numS (numS (b, false)).2).2).1) else none
theorem doneI_zero {st : St} (h : doneI st = 0) : st = ([], false) := by
  obtain ⟨l, b⟩ := st
  unfold doneI at h
  by_cases h1 : b = true ∨ 0 < l.length
  · rw [if_pos h1] at h; cases h
  · have hb : b = false := by
      cases b
      · rfl
      · exact absurd (.inl rfl) h1
    have hl : l = [] := List.eq_nil_of_length_eq_zero (by
      rcases Nat.eq_zero_or_pos l.length with h | h
      · exact h
      · exact absurd (.inr h) h1)
    rw [hb, hl]
theorem parseP_good {b : List UInt8} {q : Int} {l : List Op10} (h : parseP b = some (q, l)) : allO q l = true ∧ batchB q.toNat l = b := by
  unfold parseP at h
  split at h
  · cases h
  · split at h
    · rename_i h64 hok
      obtain ⟨hd, hall⟩ := hok
      have hd := doneI_zero hd
      simp only [Option.some.injEq, Prod.mk.injEq] at h
      obtain ⟨hq, hl⟩ := h
      rw [hl] at hall
      obtain ⟨n1, hn1⟩ : ∃ n, (numS (b, false)).1 = n := ⟨_, rfl⟩
      obtain ⟨s1, hs1⟩ : ∃ s, (numS (b, false)).2 = s := ⟨_, rfl⟩
      have e1 : numS (b, false) = (n1, s1) := by rw [← hn1, ← hs1]
      rw [hn1] at hq hall
      rw [hs1] at hl hd
      obtain ⟨l1, b1⟩ := s1
      obtain ⟨n2, hn2⟩ : ∃ n, (numS (l1, b1)).1 = n := ⟨_, rfl⟩
      obtain ⟨s2, hs2⟩ : ∃ s, (numS (l1, b1)).2 = s := ⟨_, rfl⟩
      have e2 : numS (l1, b1) = (n2, s2) := by rw [← hn2, ← hs2]
      rw [hn2, hs2] at hl hd
      obtain ⟨l2, b2⟩ := s2
      have e3 : opsS n2 (l2, b2) = (l, ([], false)) := by rw [← hl, ← hd]
      obtain ⟨hb2, hl2, hlen⟩ := opsS_good n2 e3
      subst hb2
      have hb1 := numS_keeps l1 b1 (by rw [e2])
      subst hb1
      obtain ⟨g2, _⟩ := numS_back e2
      obtain ⟨g1, _⟩ := numS_back e1
      refine ⟨hq ▸ hall, ?_⟩
      rw [← hq, Int.toNat_natCast, g1, g2, hl2, List.append_nil]
      unfold batchB
      rw [hlen, List.append_assoc]
    · cases h
theorem parseP_enc {q : Int} {l : List Op10} (h : allO q l = true) : parseP (batchB q.toNat l) = some (q, l) := by
  obtain ⟨h1, h2, h3, h4, h5⟩ := allO_parts h
  have hq : ((q.toNat : Nat) : Int) = q := by omega
  have e1 : numS (batchB q.toNat l, false) = (q.toNat, (enc l.length ++ opsB l, false)) := by
    unfold batchB
    rw [List.append_assoc]
    exact numS_enc _ _ (by omega)
  have e2 : numS (enc l.length ++ opsB l, false) = (l.length, (opsB l, false)) := numS_enc _ _ (by omega)
  have e3 := opsS_enc l [] h5
  rw [List.append_nil] at e3
  unfold parseP
  rw [e1]
  simp only
  rw [e2]
  simp only
  rw [if_neg (by omega), e3, hq]
  simp only
  rw [if_pos ⟨rfl, h⟩]
theorem textS_len (st : St) : (textS st).1.length ≤ st.1.length ∧ (textS st).2.1.length ≤ st.1.length := by
  obtain ⟨l, b⟩ := st
  unfold textS
  simp only
  cases hd : dec 9 0 l with
  | none => simp
  | some p =>
    simp only
    refine ⟨takeS_len _ _ _, ?_⟩
    unfold takeS
    split
    · simp
    · simp
theorem byteS_len (st : St) : (byteS st).2.1.length ≤ st.1.length := by
  obtain ⟨l, b⟩ := st
  unfold byteS
  cases b <;> cases l <;> simp
theorem opS_wf {st : St} (h : st.1.length ≤ 1000000) : OpWf (opS st).1 ∧ (opS st).2.1.length ≤ 1000000 := by
  have a1 := byteS_len st
  have a2 := textS_len (byteS st).2
  have a3 := textS_len (textS (byteS st).2).2
  have hc := (byteS st).1.toNat_lt
  unfold opS OpWf maxLen
  split
  · refine ⟨⟨show (Lit.int .i64 1).wf = true from by decide, ?_, ?_⟩, ?_⟩
    · simp only [size_strOf]; omega
    · simp only [size_strOf]; omega
    · simp only; omega
  · refine ⟨⟨?_, ?_, ?_⟩, ?_⟩
    · simp only [Lit.wf, IntKind.min, IntKind.max, IntKind.signed, IntKind.bits]
      simp
      omega
    · simp only [size_strOf]; omega
    · show (0 : Nat) ≤ _; omega
    · simp only; omega
theorem opsS_wf : ∀ (n : Nat) {st : St}, st.1.length ≤ 1000000 → (∀ x ∈ (opsS n st).1, OpWf x) ∧ (opsS n st).2.1.length ≤ 1000000
  | 0, st, h => ⟨fun x hx => absurd hx (List.not_mem_nil), h⟩
  | n + 1, st, h => by
    obtain ⟨h1, h2⟩ := opsS_wf n h
    obtain ⟨h3, h4⟩ := opS_wf h2
    refine ⟨fun x hx => ?_, h4⟩
    rcases List.mem_append.1 (show x ∈ (opsS n st).1 ++ [(opS (opsS n st).2).1] from hx) with h | h
    · exact h1 x h
    · rw [List.mem_singleton.1 h]; exact h3
theorem opsS_length : ∀ (n : Nat) (st : St), (opsS n st).1.length = n
  | 0, _ => rfl
  | n + 1, st => by
    show ((opsS n st).1 ++ [(opS (opsS n st).2).1]).length = _
    rw [List.length_append, opsS_length n st]
    rfl
theorem numS_len (st : St) : (numS st).2.1.length ≤ st.1.length ∧ (numS st).1 < 9223372036854775808 := by
  obtain ⟨l, b⟩ := st
  unfold numS
  cases b
  · simp only [Bool.false_eq_true, if_false]
    cases hd : dec 9 0 l with
    | none => simp
    | some p =>
      simp only
      exact ⟨by simp, (dec_lt9 l p.1 p.2 hd).2.2.2⟩
  · simp
end Go.Proofs.Ytidfjcaajejfoaa
