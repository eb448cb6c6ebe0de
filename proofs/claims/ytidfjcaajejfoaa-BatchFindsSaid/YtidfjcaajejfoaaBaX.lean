/-
  Layer 10: what the laws ask of package batch (BatchOK); awake.
-/
import Derived.Test.YtidfjcaajejfoaaBaM
namespace Go.Proofs.Ytidfjcaajejfoaa
set_option linter.unusedVariables false
open Go.RowKit

def errO (b : Bool) : Value := .int .i64 (if b then 0 else 100)
def bytesO (q : Int) (l : List Op10) : List UInt8 := if allO q l then batchB q.toNat l else []
def lastO (q : Int) (l : List Op10) : Int := if allO q l then q + (l.length : Int) - 1 else 0
def keyC (q : Int) (x : Op10) : List Value := [.string x.key, .int .i64 q, .int .i64 x.k]
def keysC : Int → List Op10 → List Value
  | _, [] => []
  | q, x :: l => keyC q x ++ keysC (q + 1) l
def keysO (q : Int) (l : List Op10) : List Value := if allO q l then keysC q l else []
/-- The last of the first n ops that has the key; -1, if none has. -/
def wantI (l : List Op10) (key : ByteArray) : Nat → Int
  | 0 => -1
  | n + 1 => if (l.getD n op0).key = key then (n : Int) else wantI l key n
def BytesR (q : Int) (l : List Op10) (w : World) (e : Ending) (w' : World) : Prop :=
  ∃ v, e = .returned (.tuple #[v, errO (allO q l)]) ∧ Row w' (Gr No w w') v (bytesO q l) ∧ Fr No w w'
def KeysR (q : Int) (l : List Op10) (w : World) (e : Ending) (w' : World) : Prop :=
  ∃ v, e = .returned v ∧ RowG w' (Gr No w w') 49 3 v (if allO q l then l.length else 0) (keysO q l) ∧ Fr No w w'
def ParseR (b : List UInt8) (w : World) (e : Ending) (w' : World) : Prop :=
  Fr No w w' ∧ ((∃ q l v, allO q l = true ∧ (∀ x ∈ l, OpWf x) ∧ batchB q.toNat l = b ∧ e = .returned (.tuple #[.agg #[.int .i64 q, v], .int .i64 0]) ∧ RowG w' (Gr No w w') 30 3 v l.length (opsC l)) ∨
    ((∀ q l, allO q l = true → batchB q.toNat l ≠ b) ∧ e = .returned (.tuple #[.agg #[.int .i64 0, .slice none 0 0], .int .i64 20])))
structure BatchOK : Prop where
  ocheck : ∀ (x : Op10) (w : World), OpWf x → Calls Try.prog 12 #[opV x] w (Ask (errO (rightO x)) w)
  check : ∀ (q : Int) (a : Option Addr) (cap : Nat) (l : List Op10) (w : World) (S : Nat → Prop), (Lit.int .i64 q).wf = true → l.length ≤ cap → cap ≤ maxLen → Ops w S a l → (∀ x ∈ l, OpWf x) →
    Calls Try.prog 16 #[.agg #[.int .i64 q, .slice a l.length cap]] w (Ask (errO (allO q l)) w)
  bytes : ∀ (q : Int) (a : Option Addr) (cap : Nat) (l : List Op10) (w : World) (S : Nat → Prop), (Lit.int .i64 q).wf = true → l.length ≤ cap → cap ≤ maxLen → Ops w S a l → (∀ x ∈ l, OpWf x) →
    Calls Try.prog 14 #[.agg #[.int .i64 q, .slice a l.length cap]] w (BytesR q l w)
  size : ∀ (q : Int) (a : Option Addr) (cap : Nat) (l : List Op10) (w : World) (S : Nat → Prop), (Lit.int .i64 q).wf = true → l.length ≤ cap → cap ≤ maxLen → Ops w S a l → (∀ x ∈ l, OpWf x) →
    Calls Try.prog 17 #[.agg #[.int .i64 q, .slice a l.length cap]] w (Ask (.int .i64 ((bytesO q l).length : Int)) w)
  last : ∀ (q : Int) (a : Option Addr) (cap : Nat) (l : List Op10) (w : World) (S : Nat → Prop), (Lit.int .i64 q).wf = true → l.length ≤ cap → cap ≤ maxLen → Ops w S a l → (∀ x ∈ l, OpWf x) →
    Calls Try.prog 18 #[.agg #[.int .i64 q, .slice a l.length cap]] w (Ask (.int .i64 (lastO q l)) w)
  keys : ∀ (q : Int) (a : Option Addr) (cap : Nat) (l : List Op10) (w : World) (S : Nat → Prop), (Lit.int .i64 q).wf = true → l.length ≤ cap → cap ≤ maxLen → Ops w S a l → (∀ x ∈ l, OpWf x) →
    Calls Try.prog 19 #[.agg #[.int .i64 q, .slice a l.length cap]] w (KeysR q l w)
  find : ∀ (q : Int) (a : Option Addr) (cap : Nat) (l : List Op10) (key : ByteArray) (w : World) (S : Nat → Prop), (Lit.int .i64 q).wf = true → l.length ≤ cap → cap ≤ maxLen → Ops w S a l → (∀ x ∈ l, OpWf x) →
    Calls Try.prog 25 #[.agg #[.int .i64 q, .slice a l.length cap], .string key] w
      (Ask (.tuple #[if wantI l key l.length < 0 then opV op0 else opV (l.getD (wantI l key l.length).toNat op0), .bool (decide (0 ≤ wantI l key l.length))]) w)
  parse : ∀ (a : Option Addr) (cap n : Nat) (b : List UInt8) (w : World), b.length = n → n ≤ cap → cap ≤ maxLen → n ≤ 1000000 → Rd w a b →
    Calls Try.prog 22 #[.slice a n cap] w (ParseR b w)

def aw0 : Op10 := ⟨1, ⟨#[97]⟩, ⟨#[120]⟩⟩
def aw1 : Op10 := ⟨2, ⟨#[98]⟩, ⟨#[]⟩⟩
theorem aw_right : allO 5 [aw0, aw1] = true := by decide
theorem aw_bytes : (bytesO 5 [aw0, aw1]).length = 10 := by
  unfold bytesO
  rw [aw_right, if_pos rfl, batchB_len]
  have e1 : (Int.toNat 5) = 5 := rfl
  have e2 : [aw0, aw1].length = 2 := rfl
  have e3 : opsB [aw0, aw1] = opB aw0 ++ opB aw1 := by simp [opsB]
  rw [e1, e2, e3, enc_len_small (by omega), enc_len_small (by omega), List.length_append]
  have t : ∀ s : ByteArray, s.size = 1 → (textB s).length = 2 := fun s h => by
    unfold textB
    rw [List.length_append, bs_length, h, enc_len_small (by omega)]
  have f0 : (opB aw0).length = 5 := by
    unfold opB
    rw [if_pos (show aw0.k = 1 from rfl), List.length_cons, List.length_append, t _ rfl, t _ rfl]
  have f1 : (opB aw1).length = 3 := by
    unfold opB
    rw [if_neg (by decide), List.length_cons, List.length_append, t _ rfl]
    rfl
  rw [f0, f1]
theorem aw_last : lastO 5 [aw0, aw1] = 6 := by unfold lastO; rw [aw_right]; rfl
theorem aw_wf : ∀ x ∈ [aw0, aw1], OpWf x := by
  intro x hx
  simp only [List.mem_cons, List.not_mem_nil, or_false] at hx
  rcases hx with rfl | rfl <;> exact ⟨by decide, by decide, by decide⟩
set_option maxRecDepth 20000 in
set_option maxHeartbeats 3200000 in
theorem awake10_c (H : BatchOK) (w : World) : Calls Try.prog 10 #[] w (Ask (.bool true) w) := by
  obtain ⟨W, hW⟩ : ∃ W, (w.alloc (.cells #[.int .i64 1, .string ⟨#[97]⟩, .string ⟨#[120]⟩, .int .i64 2, .string ⟨#[98]⟩, .string ⟨#[]⟩] 30)).alloc (.cells #[.int .i64 5, .slice (some ⟨w.heap.size, 0, none⟩) 2 2] 24) = W := ⟨_, rfl⟩
  have hsz : (w.alloc (.cells #[.int .i64 1, .string ⟨#[97]⟩, .string ⟨#[120]⟩, .int .i64 2, .string ⟨#[98]⟩, .string ⟨#[]⟩] 30)).heap.size = w.heap.size + 1 := by simp [World.alloc, -World.alloc_eq]
  have hF : Fr No w W := by rw [← hW]; exact ((Fr.refl _ _).alloc _).alloc _
  have hb2 : W.heap[w.heap.size + 1]? = some (.cells #[.int .i64 5, .slice (some ⟨w.heap.size, 0, none⟩) 2 2] 24) := by rw [← hW, ← hsz]; exact heap_alloc_new _ _
  have hb1 : W.heap[w.heap.size]? = some (.cells #[.int .i64 1, .string ⟨#[97]⟩, .string ⟨#[120]⟩, .int .i64 2, .string ⟨#[98]⟩, .string ⟨#[]⟩] 30) := by
    rw [← hW]
    have h0 := heap_alloc_new w (.cells #[.int .i64 1, .string ⟨#[97]⟩, .string ⟨#[120]⟩, .int .i64 2, .string ⟨#[98]⟩, .string ⟨#[]⟩] 30)
    exact (((Fr.refl No (w.alloc (.cells #[.int .i64 1, .string ⟨#[97]⟩, .string ⟨#[120]⟩, .int .i64 2, .string ⟨#[98]⟩, .string ⟨#[]⟩] 30))).alloc _).block w.heap.size (by rw [hsz]; omega) (fun h => h)).trans h0
  have hops : Ops W (fun _ => True) (some ⟨w.heap.size, 0, none⟩) [aw0, aw1] := fun _ => ⟨w.heap.size, 0, trivial, rfl, fun i hi => by
    have h2 : i = 0 ∨ i = 1 := by
      have : i < 2 := hi
      omega
    rcases h2 with rfl | rfl
    · refine ⟨?_, ?_, ?_⟩ <;> rw [cell_of_row W w.heap.size _ _ _ (0, 0) hb1] <;> rfl
    · refine ⟨?_, ?_, ?_⟩ <;> rw [cell_of_row W w.heap.size _ _ _ (0, 0) hb1] <;> rfl⟩
  have k0 : W.cell? ⟨w.heap.size + 1, 0, none⟩ = some (.int .i64 5) := by rw [cell_of_row W (w.heap.size + 1) 0 _ _ (0, 0) hb2]; rfl
  have k1 : W.cell? ⟨w.heap.size + 1, 1, none⟩ = some (.slice (some ⟨w.heap.size, 0, none⟩) 2 2) := by rw [cell_of_row W (w.heap.size + 1) 1 _ _ (0, 0) hb2]; rfl
  have HW := Lib.hid hW
  have HF := Lib.hid hF
  have HO := Lib.hid hops
  have HH := Lib.hid H
  have w5 : (Lit.int .i64 5).wf = true := by decide
  have hm : 2 ≤ maxLen := by decide
  have HM := Lib.hid hm
  clear hW hF hops hb1 hb2 hsz hm H
  go_enter Try.func10, Try.ntmps10
  go_wp2_with fail
  rw [HW.out]
  go_wp2_with fail
  refine (HH.out.bytes 5 (some ⟨w.heap.size, 0, none⟩) 2 [aw0, aw1] W _ w5 (Nat.le_refl 2) HM.out HO.out aw_wf).mono ?_
  rintro e w1 ⟨v1, rfl, hrow, hf1⟩
  have hE : errO (allO 5 [aw0, aw1]) = .int .i64 0 := by rw [aw_right]; rfl
  rw [hE]
  obtain ⟨a1, c1, rfl, _, _, _⟩ := hrow.form
  rw [aw_bytes]
  have HO1 := Lib.hid (HO.out.keep hf1 fun _ _ h => h)
  have HF1 := Lib.hid (HF.out.trans hf1)
  have m0 := hf1.cell k0 (fun h => h)
  have m1 := hf1.cell k1 (fun h => h)
  clear hrow hf1 k0 k1 HO HF hE HW
  go_wp2_with fail
  refine (HH.out.last 5 (some ⟨w.heap.size, 0, none⟩) 2 [aw0, aw1] w1 _ w5 (Nat.le_refl 2) HM.out HO1.out aw_wf).mono ?_
  rintro e w2 ⟨rfl, hf2⟩
  rw [aw_last]
  have HO2 := Lib.hid (HO1.out.keep hf2 fun _ _ h => h)
  have HF2 := Lib.hid (HF1.out.trans hf2)
  have n0 := hf2.cell m0 (fun h => h)
  have n1 := hf2.cell m1 (fun h => h)
  clear hf2 m0 m1 HO1 HF1
  go_wp2_with fail
  refine (HH.out.size 5 (some ⟨w.heap.size, 0, none⟩) 2 [aw0, aw1] w2 _ w5 (Nat.le_refl 2) HM.out HO2.out aw_wf).mono ?_
  rintro e w3 ⟨rfl, hf3⟩
  rw [aw_bytes]
  have HO3 := Lib.hid (HO2.out.keep hf3 fun _ _ h => h)
  have HF3 := Lib.hid (HF2.out.trans hf3)
  have o0 := hf3.cell n0 (fun h => h)
  have o1 := hf3.cell n1 (fun h => h)
  clear hf3 n0 n1 HO2 HF2
  go_wp2_with fail
  refine (HH.out.keys 5 (some ⟨w.heap.size, 0, none⟩) 2 [aw0, aw1] w3 _ w5 (Nat.le_refl 2) HM.out HO3.out aw_wf).mono ?_
  rintro e w4 ⟨v4, rfl, hrow, hf4⟩
  obtain ⟨a4, c4, rfl, _⟩ := hrow.form
  have hn : (if allO 5 [aw0, aw1] = true then [aw0, aw1].length else 0) = 2 := by rw [aw_right]; rfl
  rw [hn]
  have HF4 := Lib.hid (HF3.out.trans hf4)
  clear hrow hf4 hn
  go_wp2_with fail
  go_ret
  exact ⟨rfl, HF4.out⟩
end Go.Proofs.Ytidfjcaajejfoaa
