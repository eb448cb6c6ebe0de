/-
  Texts of layer 13 and of what it stands on, one behind the other.
-/
import Derived.Test.YtlobnbbndkhcbaaGreatDoorMg22
import Derived.Test.YtlobnbbndkhcbaaGreatDoorMg15
import Derived.Test.YtlobnbbndkhcbaaGreatDoorMg03
import Derived.Test.YtlobnbbndkhcbaaGreatDoorMg09
import Derived.BigQuiet
import Derived.Test.YtlobnbbndkhcbaaGreatDoorMg05
import Derived.Lib.AppendZerosOnto
import Derived.Lib.SliceRun
import Derived.Lib.Walk
import Derived.Deep.RegionHeld3
import Derived.Test.YtlobnbbndkhcbaaGreatDoorMg21

/- Layer 9: lists of records in memory; the statements' 'same' and 'small'; the document's Scan. -/
namespace Go.Proofs.YtlobnbbndkhcbaaGreatDoor
set_option linter.unusedVariables false
open Go.RowKit

theorem rowTx : RowT Tryz.prog 133 27 (.slice none 0 0) 1 24 := ⟨Tryz.underlying133, by kernel_rfl, rfl, by decide⟩
theorem sizeSl (w : World) : (sizeOf 27).run Tryz.prog w = .ok 1 w := by kernel_rfl
def txV (x : Tx) : Value := .slice x.a x.b.length x.c
def txC (xs : List Tx) : List Value := xs.map txV
/-- RECORDS of the call's own: their list's block, and each one's bytes in blocks from B on that are not the list's. -/
structure TxR (w : World) (B : Nat) (v : Value) (xs : List Tx) : Prop where
  row : RowG w (Own1 v) 27 1 v xs.length (txC xs)
  own : ∀ k, v.ownBlock = some k → B ≤ k
  at_ : ∀ x ∈ xs, In w (fun k => B ≤ k ∧ v.ownBlock ≠ some k) x.a x.b
theorem TxR.nil (w : World) (B : Nat) : TxR w B (.slice none 0 0) [] := ⟨RowG.nil _ _ _ _, fun k h => absurd h (by simp [Value.ownBlock]), fun x h => absurd h (List.not_mem_nil)⟩
theorem TxR.keep {w w' : World} {B : Nat} {T : Nat → Prop} {v : Value} {xs : List Tx} (h : TxR w B v xs) (f : Fr T w w') (hT : ∀ k, B ≤ k → k < w.heap.size → ¬ T k) : TxR w' B v xs := by
  have f2 : Fr (fun k => T k ∧ k < w.heap.size) w w' := f.sub fun k hk h => ⟨h, hk⟩
  exact ⟨h.row.keep f2 fun k hk ht => hT k (h.own k hk) ht.2 ht.1, h.own, fun x hx => (h.at_ x hx).keep f2 fun k hk ht => hT k hk.1 ht.2 ht.1⟩
theorem TxR.low {w : World} {B B' : Nat} {v : Value} {xs : List Tx} (h : TxR w B v xs) (hB : B' ≤ B) : TxR w B' v xs :=
  ⟨h.row, fun k hk => Nat.le_trans hB (h.own k hk), fun x hx => (h.at_ x hx).sub fun k _ hk => ⟨Nat.le_trans hB hk.1, hk.2⟩⟩
/-- Records that are read. -/
structure RcAt (w : World) (b o : Nat) (x : Tx) : Prop where
  c0 : w.cell? ⟨b, o, none⟩ = some (.slice x.a x.b.length x.c)
  rd : Rd w x.a x.b
theorem RcAt.keep {w w' : World} {b o : Nat} {x : Tx} (h : RcAt w b o x) (f : Fr No w w') : RcAt w' b o x := ⟨f.cell h.c0 (fun h => h), h.rd.keep f⟩
def Recs (w : World) (a : Option Addr) (l : List Tx) : Prop := 0 < l.length → ∃ b o, a = some ⟨b, o, none⟩ ∧ ∀ i x, l[i]? = some x → RcAt w b (o + i) x
theorem Recs.keep {w w' : World} {a : Option Addr} {l : List Tx} (h : Recs w a l) (f : Fr No w w') : Recs w' a l := fun hl => by
  obtain ⟨b, o, ha, hx⟩ := h hl
  exact ⟨b, o, ha, fun i x hi => (hx i x hi).keep f⟩
theorem Texts.recs {w : World} {a : Option Addr} {l : List Tx} (h : Texts w a l) : Recs w a l := fun hl => by
  obtain ⟨b, o, ha, hx⟩ := h hl
  exact ⟨b, o, ha, fun i x hi => ⟨(hx i x hi).c0, (hx i x hi).rd⟩⟩
theorem TxR.texts {w : World} {B : Nat} {v : Value} {xs : List Tx} (h : TxR w B v xs) : ∃ a cap, v = .slice a xs.length cap ∧ xs.length ≤ cap ∧ cap ≤ maxLen ∧ Recs w a xs := by
  obtain ⟨a, cap, rfl, h1, h2, h3, h4⟩ := h.row.form
  refine ⟨a, cap, rfl, h1, h2, fun h0 => ?_⟩
  obtain ⟨b, _, rfl, hc⟩ := h4 h0
  refine ⟨b, 0, rfl, fun i x hx => ?_⟩
  have hi : i < xs.length := (List.getElem?_eq_some_iff.1 hx).1
  refine ⟨?_, (h.at_ x (List.mem_of_getElem? hx)).rd⟩
  rw [Nat.zero_add, (hc i (by omega)).1]
  unfold txC
  rw [List.getElem?_map, hx]
  rfl
/-- A record more. -/
theorem TxR.push {w : World} {B : Nat} {v : Value} {xs : List Tx} (h : TxR w B v xs) (x : Tx) (h3 : In w (fun k => B ≤ k ∧ v.ownBlock ≠ some k) x.a x.b) (hB : B ≤ w.heap.size) (hn : xs.length < 1000000) :
    ∃ v' w', (Builtin.append_ #[133, 133] 133 #[v, .slice (some ⟨w.heap.size, 0, none⟩) 1 1]).run Tryz.prog (w.alloc (.cells #[.slice x.a x.b.length x.c] 27)) = .ok v' w' ∧ TxR w' B v' (xs ++ [x]) ∧ Fr (Own1 v) w w' := by
  obtain ⟨v', w', hrun, hrow, hfr⟩ := RowG.push rowTx h.row (fun k hk => (h.row.1.lt k hk).2) [txV x] rfl (by intro u hu; rw [List.mem_singleton.1 hu]; rfl) (by omega) (by omega)
  have hv : ∀ k, v'.ownBlock = some k → v.ownBlock = some k ∨ w.heap.size ≤ k := fun k hk => (hrow.2 k hk).elim .inl fun h => .inr h.1
  have hin : ∀ {y : Tx}, In w (fun k => B ≤ k ∧ v.ownBlock ≠ some k) y.a y.b → In w' (fun k => B ≤ k ∧ v'.ownBlock ≠ some k) y.a y.b := fun {y} hy =>
    (hy.sub (T := fun k => (B ≤ k ∧ v.ownBlock ≠ some k) ∧ k < w.heap.size) fun k hk h => ⟨h, hk⟩).keep hfr (fun k hk hv => hk.1.2 hv) |>.sub fun k _ hk => ⟨hk.1.1, fun e => (hv k e).elim hk.1.2 (fun h => by have := hk.2; omega)⟩
  refine ⟨v', w', hrun, ⟨?_, fun k hk => (hv k hk).elim (h.own k) fun h => Nat.le_trans hB h, fun y hy => ?_⟩, hfr⟩
  · rw [List.length_append]
    unfold txC
    rw [List.map_append]
    exact ⟨hrow.1, fun k hk => hk⟩
  · rcases List.mem_append.1 hy with hy | hy
    · exact hin (h.at_ y hy)
    · obtain rfl := List.mem_singleton.1 hy
      exact hin h3
theorem same_q {a a' : Option Addr} {len cap len' cap' : Nat} {l l' : List UInt8} {w : World} (hl : l.length = len) (hl' : l'.length = len') (hr : Rd w a l) (hr' : Rd w a' l') (n : Nat) :
    Calls Tryz.prog 17 #[.slice a len cap, .slice a' len' cap'] (w.drewN n) fun e w' => e = .returned (.bool (l == l')) ∧ ∃ m, w' = w.drewN m :=
  Calls.quiet_of_same ((same_c a a' len cap len' cap' l l' _ hl hl' (hr.keep ((Fr.refl No w).drewN n)) (hr'.keep ((Fr.refl No w).drewN n))).mono fun _ _ h => ⟨h.1, h.2.symm⟩)
theorem eqT {xs ys : List Tx} (hl : xs.length = ys.length) (h : ∀ (t : Nat) (x y : Tx), xs[t]? = some x → ys[t]? = some y → x.b = y.b) : (xs.map Tx.b == ys.map Tx.b) = true := by
  rw [beq_iff_eq]
  apply List.ext_getElem?
  intro i
  rw [List.getElem?_map, List.getElem?_map]
  rcases Nat.lt_or_ge i xs.length with h1 | h1
  · rw [List.getElem?_eq_getElem h1, List.getElem?_eq_getElem (by omega)]
    exact congrArg some (h i _ _ (List.getElem?_eq_getElem h1) (List.getElem?_eq_getElem (by omega)))
  · rw [List.getElem?_eq_none h1, List.getElem?_eq_none (by omega)]
theorem neT {xs ys : List Tx} (h : xs.length ≠ ys.length) : (xs.map Tx.b == ys.map Tx.b) = false := by
  rw [beq_eq_false_iff_ne]
  intro e
  have := congrArg List.length e
  rw [List.length_map, List.length_map] at this
  exact h this
theorem neT' {xs ys : List Tx} {t : Nat} {x y : Tx} (hx : xs[t]? = some x) (hy : ys[t]? = some y) (h : x.b ≠ y.b) : (xs.map Tx.b == ys.map Tx.b) = false := by
  rw [beq_eq_false_iff_ne]
  intro e
  have := congrArg (fun l => l[t]?) e
  simp only [List.getElem?_map, hx, hy, Option.map_some, Option.some.injEq] at this
  exact h this
theorem Row.own1 {w1 w2 : World} {v v' : Value} {l : List UInt8} {B : Nat} (h : Row w2 (Gr (Own1 v) w1 w2) v' l) (hv : ∀ k, v.ownBlock = some k → B ≤ k) (hB : B ≤ w1.heap.size) : Row w2 (Own1 v') v' l ∧ (∀ k, v'.ownBlock = some k → B ≤ k) ∧ ∀ k, v'.ownBlock = some k → v.ownBlock = some k ∨ w1.heap.size ≤ k :=
  ⟨h.own, fun k hk => (h.2 k hk).elim (hv k) fun h => Nat.le_trans hB h.1, fun k hk => (h.2 k hk).elim .inl fun h => .inr h.1⟩
theorem RowI.own1 {w1 w2 : World} {v v' : Value} {l : List Int} {B : Nat} (h : RowI w2 (Gr (Own1 v) w1 w2) v' l) (hv : ∀ k, v.ownBlock = some k → B ≤ k) (hB : B ≤ w1.heap.size) : RowI w2 (Own1 v') v' l ∧ (∀ k, v'.ownBlock = some k → B ≤ k) ∧ ∀ k, v'.ownBlock = some k → v.ownBlock = some k ∨ w1.heap.size ≤ k :=
  ⟨h.own, fun k hk => (h.2 k hk).elim (hv k) fun h => Nat.le_trans hB h.1, fun k hk => (h.2 k hk).elim .inl fun h => .inr h.1⟩
end Go.Proofs.YtlobnbbndkhcbaaGreatDoor

/- Layer 9: the document's Scan. -/
namespace Go.Proofs.YtlobnbbndkhcbaaGreatDoor
set_option linter.unusedVariables false
open Go.RowKit

theorem headF_same {r : List UInt8} {n k : Nat} (h : dec 9 0 (r.drop 4) = some (n, k)) (hn : n ≤ r.length - (4 + k)) :
    headF r = if frameL ((r.drop (4 + k)).take n) = r.take (4 + k + n) then some ((r.drop (4 + k)).take n, 4 + k + n) else none := by
  obtain ⟨b1, b2, b3, b4⟩ := body_parts h hn
  rw [headF_some h]
  have e : r.take (4 + k + n) = r.take 4 ++ (r.drop 4).take (k + n) := by rw [show 4 + k + n = 4 + (k + n) by omega, List.take_add]
  have e2 : (n ≤ r.length - (4 + k) ∧ r.take 4 = wordL (sumW ((r.drop 4).take (k + n)))) ↔ frameL ((r.drop (4 + k)).take n) = r.take (4 + k + n) := by
    rw [e]
    unfold frameL
    rw [← b3]
    constructor
    · rintro ⟨_, h2⟩
      rw [h2]
    · intro h2
      refine ⟨hn, ?_⟩
      exact ((List.append_inj h2 (by rw [wordL_length, List.length_take]; omega)).1).symm
  by_cases hc : frameL ((r.drop (4 + k)).take n) = r.take (4 + k + n)
  · rw [if_pos hc, if_pos (e2.2 hc)]
  · rw [if_neg hc, if_neg fun h => hc (e2.1 h)]
/-- What Scan tells. -/
def ScanRet (l : List UInt8) (w : World) (e : Ending) (w' : World) : Prop :=
  ∃ v xs, e = .returned (.tuple #[v, .int .i64 ((framesL (scanL l)).length : Int)]) ∧ TxR w' w.heap.size v xs ∧ xs.map Tx.b = scanL l ∧ Fr No w w'
theorem ScanRet.mk {l : List UInt8} {w w' : World} {v : Value} {xs : List Tx} {k : Nat} (hl : l.length ≤ 1000000) (hr : TxR w' w.heap.size v xs) (hf : Fr No w w') (hk : k ≤ l.length) (ht : l.take k = framesL (xs.map Tx.b)) (hh : headF (l.drop k) = none) :
    ScanRet l w (.returned (.tuple #[v, .int .i64 (k : Int)])) w' := by
  have hs := scn_end ht hh
  have e := scanL_eq (by omega) hs
  refine ⟨v, xs, ?_, hr, e.symm, hf⟩
  rw [e, ← ht, List.length_take, Nat.min_eq_left hk]
end Go.Proofs.YtlobnbbndkhcbaaGreatDoor

/- Layer 4: what probesOf hands back. -/
namespace Go.Proofs.YtlobnbbndkhcbaaGreatDoor
set_option linter.unusedVariables false
open Go.RowKit Go.Shelf
attribute [local go_sem] Oper.semAt_some

abbrev seqPr (B1 B2 B3 B4 : Nat) : Value := .func (.func 120) #[] #[.pointer (some ⟨B1, 0, none⟩), .pointer (some ⟨B2, 0, none⟩), .pointer (some ⟨B3, 0, none⟩), .pointer (some ⟨B4, 0, none⟩)]
/-- The cells of an iterator over a key's probes. -/
structure SeqAt (w : World) (B1 B2 B3 B4 : Nat) (l : List UInt8) (m c : Nat) : Prop where
  c1 : w.cell? ⟨B1, 0, none⟩ = some (.int .u32 ((pA l : Nat) : Int))
  c2 : w.cell? ⟨B2, 0, none⟩ = some (.int .i64 (c : Int))
  c3 : w.cell? ⟨B3, 0, none⟩ = some (.int .i64 (m : Int))
  c4 : w.cell? ⟨B4, 0, none⟩ = some (.int .u64 ((pD l : Nat) : Int))
theorem SeqAt.keep {w w' : World} {B1 B2 B3 B4 : Nat} {l : List UInt8} {m c : Nat} (h : SeqAt w B1 B2 B3 B4 l m c) (f : Fr No w w') : SeqAt w' B1 B2 B3 B4 l m c :=
  ⟨f.cell h.c1 (fun h => h), f.cell h.c2 (fun h => h), f.cell h.c3 (fun h => h), f.cell h.c4 (fun h => h)⟩
theorem SeqAt.stops {w : World} {B1 B2 B3 B4 : Nat} {l : List UInt8} {m c : Nat} (h : SeqAt w B1 B2 B3 B4 l m c) (n : Nat) (hn : 1 ≤ n) (T : Nat → Prop) (hm : 0 < m) (hm2 : m ≤ 1000000000) (hc : c ≤ 64) (b3 : ¬ T B3) (b4 : ¬ T B4) :
    SeqStopsK Fence.wide n Tryz.prog 120 #[.pointer (some ⟨B1, 0, none⟩), .pointer (some ⟨B2, 0, none⟩), .pointer (some ⟨B3, 0, none⟩), .pointer (some ⟨B4, 0, none⟩)] (fun x : Int => #[Value.int .i64 x]) (Fr T) (fun ys => ys = placesI l m c) (fun pre => pre <+: placesI l m c) c w :=
  probes_stops n hn B1 B2 B3 B4 T l m c hm hm2 hc w b3 b4 h.c1 h.c2 h.c3 h.c4
/-- What probesOf hands back: an iterator over the key's probes. -/
theorem probesOf_s (a : Option Addr) (len cap : Nat) (l : List UInt8) (m c : Nat) (w : World) (hl : l.length = len) (hlm : len ≤ 1000000) (hr : Rd w a l) (ht : Tab w) :
    Calls Tryz.prog 85 #[.slice a len cap, .int .i64 (m : Int), .int .i64 (c : Int)] w fun e w' =>
      ∃ B1 B2 B3 B4, e = .returned (seqPr B1 B2 B3 B4) ∧ Fr No w w' ∧ SeqAt w' B1 B2 B3 B4 l m c ∧ w.heap.size ≤ B1 ∧ w.heap.size ≤ B2 ∧ w.heap.size ≤ B3 ∧ w.heap.size ≤ B4 :=
  (probesOf_c a len cap l (m : Int) (c : Int) w hl hlm hr ht).mono fun e w' ⟨h1, h2, h3, h4, h5, h6, h7⟩ =>
    ⟨_, _, _, _, h1, h2, ⟨h5, h4, h3, h6⟩, by omega, by omega, Nat.le_refl _, by omega⟩
end Go.Proofs.YtlobnbbndkhcbaaGreatDoor

/- Layer 4: contracts of New; of slices.Clone, Grow, Concat at bytes; of Bytes and Parse. -/
namespace Go.Proofs.YtlobnbbndkhcbaaGreatDoor
set_option linter.unusedVariables false
set_option linter.unusedSimpArgs false
open Go.RowKit

theorem make_bytesB (w : World) (n : Nat) (h : n ≤ 140737488355328) :
    (Instr.makeSlice 27 (.int .i64 (n : Int)) (.int .i64 (n : Int))).run Tryz.prog w = .ok (.slice (some ⟨w.heap.size, 0, none⟩) n n) (w.alloc (.cells (madeCells #[.int .u8 0] n) 5)) := by
  obtain ⟨i0, hi, hz0, hz1, hz2⟩ := info_parts infoU8
  have hr := run_make (P := Tryz.prog) w 27 5 i0 (.int .u8 0) Tryz.underlying27 hi hz0 .i64 .i64 n n (by omega) (by omega) (by rw [hz2]; omega) (by omega)
  rw [hz1] at hr
  simp only [Int.toNat_natCast, Nat.mul_one] at hr
  exact hr
theorem madeBytes_row (w : World) (n : Nat) (hn : n ≤ 1000000000) : Row (w.alloc (.cells (madeCells #[.int .u8 0] n) 5)) (One w.heap.size) (.slice (some ⟨w.heap.size, 0, none⟩) n n) (List.replicate n 0) := by
  have hl : (List.replicate n (0 : UInt8)).length = n := by simp
  refine ⟨⟨by simp, .inr ⟨w.heap.size, n, madeCells #[.int .u8 0] n, by rw [hl], Nat.zero_le _, heap_alloc_new w _, by rw [hl]; exact Nat.le_refl _, by unfold maxLen; omega, by simp [size_madeCells], ?_⟩⟩, fun k hk => (Option.some.inj hk).symm⟩
  rw [hl, Nat.mul_one]
  apply List.ext_getElem
  · simp [size_madeCells]
  · intro i h1 h2
    have h3 : i < n := by simpa using h2
    simp [madeCells, Nat.mod_one]
theorem new_fil (w : World) (n p : Nat) (hn : n ≤ 1000000000) :
    Fil ((w.alloc (.cells (madeCells #[.int .u8 0] n) 5)).alloc (.cells #[.int .i64 (p : Int), .slice (some ⟨w.heap.size, 0, none⟩) n n] 144)) (w.heap.size + 1) w.heap.size (List.replicate n 0) p := by
  have R := madeBytes_row w n hn
  have A := At.new' (w.alloc (.cells (madeCells #[.int .u8 0] n) 5)) 144 #[.int .i64 (p : Int), .slice (some ⟨w.heap.size, 0, none⟩) n n] (g := w.heap.size + 1) (by simp)
  have f := (Fr.refl No (w.alloc (.cells (madeCells #[.int .u8 0] n) 5))).alloc (.cells #[.int .i64 (p : Int), .slice (some ⟨w.heap.size, 0, none⟩) n n] 144)
  refine ⟨⟨n, ?_, ?_, by unfold maxLen; omega⟩, by omega⟩
  · rw [List.length_replicate]
    exact A
  · rw [List.length_replicate]
    exact R.keep f (fun _ _ h => h)
def sizeB (k e : Nat) : Nat := (max (k * e) 64 + 7) / 8
theorem sizeF_B (k e : Nat) : sizeF k e = 8 * sizeB k e := by unfold sizeF sizeB; omega
set_option maxRecDepth 20000 in
set_option maxHeartbeats 1000000 in
theorem new_c (k e : Nat) (hk : k ≤ 65536) (he1 : 1 ≤ e) (he : e ≤ 32) (w : World) :
    Calls Tryz.prog 74 #[.int .i64 (k : Int), .int .i64 (e : Int)] w fun x w' =>
      ∃ b g, x = .returned (.tuple #[.pointer (some ⟨b, 0, none⟩), .int .i64 0]) ∧ Fil w' b g (List.replicate (sizeB k e) 0) (probF e) ∧ Fr No w w' ∧ w.heap.size ≤ b ∧ w.heap.size ≤ g := by
  obtain ⟨t, ht⟩ : ∃ t, k * e = t := ⟨_, rfl⟩
  have e1 : (k : Int) * (e : Int) = (t : Int) := by rw [← ht]; exact (Int.natCast_mul k e).symm
  have ht2 : t ≤ 65536 * 32 := by rw [← ht]; exact Nat.mul_le_mul hk he
  obtain ⟨T, hT⟩ : ∃ T, sizeB k e = T := ⟨_, rfl⟩
  have hT2 : T = (max t 64 + 7) / 8 := by rw [← hT, ← ht]; rfl
  rw [hT]
  have HP := Lib.hid (show probF e = max (e * 7 / 10) 1 from rfl)
  generalize probF e = P at *
  have hmk := fun w => make_bytesB w T (by omega)
  have FIN := Lib.hid (fun w => new_fil w T P (by omega))
  have d1 : decide ((k : Int) < 0) = false := decide_eq_false (by omega)
  have d2 : decide (65536 < (k : Int)) = false := decide_eq_false (by omega)
  have d3 : decide ((e : Int) < 1) = false := decide_eq_false (by omega)
  have d4 : decide (32 < (e : Int)) = false := decide_eq_false (by omega)
  obtain ⟨m1, hm1⟩ : ∃ m1 : Nat, max t 64 = m1 := ⟨_, rfl⟩
  rw [hm1] at hT2
  have e2 : max (t : Int) 64 = (m1 : Int) := by omega
  have e3 : max ((e : Int) * 7 / 10) 1 = (P : Int) := by have := HP.out; omega
  have e4 : ((m1 : Int) + 7) / 8 = (T : Int) := by omega
  have e5 : ((m1 : Int) + 8 - 1) / 8 = (T : Int) := by omega
  have hm2 : m1 ≤ 65536 * 32 := by omega
  clear ht hT HP hm1 hT2
  go_enter Tryz.func74, Tryz.ntmps74
  go_wp2_with fail
  go_ret2
  exact ⟨w.heap.size + 1, w.heap.size, rfl, FIN.out w, ((Fr.refl No w).alloc _).alloc _, by omega, Nat.le_refl _⟩
set_option maxHeartbeats 400000 in
theorem new_no (k e : Int) (w : World) (hk0 : -9223372036854775808 ≤ k) (hk1 : k ≤ 9223372036854775807) (he0 : -9223372036854775808 ≤ e) (he1 : e ≤ 9223372036854775807) (h : k < 0 ∨ 65536 < k ∨ e < 1 ∨ 32 < e) :
    Calls Tryz.prog 74 #[.int .i64 k, .int .i64 e] w fun x w' => x = .returned (.tuple #[.pointer none, .int .i64 70]) ∧ w = w' := by
  by_cases h1 : k < 0
  · have d1 : decide (k < 0) = true := decide_eq_true h1
    go_enter Tryz.func74, Tryz.ntmps74
    go_wp2_with fail
    go_ret2
    exact ⟨rfl, rfl⟩
  · have d1 : decide (k < 0) = false := decide_eq_false h1
    by_cases h2 : 65536 < k
    · have d2 : decide (65536 < k) = true := decide_eq_true h2
      go_enter Tryz.func74, Tryz.ntmps74
      go_wp2_with fail
      go_ret2
      exact ⟨rfl, rfl⟩
    · have d2 : decide (65536 < k) = false := decide_eq_false h2
      by_cases h3 : e < 1
      · have d3 : decide (e < 1) = true := decide_eq_true h3
        go_enter Tryz.func74, Tryz.ntmps74
        go_wp2_with fail
        go_ret2
        exact ⟨rfl, rfl⟩
      · have d3 : decide (e < 1) = false := decide_eq_false h3
        have d4 : decide (32 < e) = true := decide_eq_true (by omega)
        go_enter Tryz.func74, Tryz.ntmps74
        go_wp2_with fail
        go_ret2
        exact ⟨rfl, rfl⟩
end Go.Proofs.YtlobnbbndkhcbaaGreatDoor

/- Layer 13, the program's own: foot.bytes. -/
namespace Go.Proofs.YtlobnbbndkhcbaaGreatDoor
set_option linter.unusedVariables false
open Go.RowKit

theorem footN_step (l : List Nat) (k : Nat) (h : k < l.length) : footN (l.take (k + 1)) = footN (l.take k) ++ w32 (l.getD k 0) := by
  unfold footN
  rw [List.take_add_one, List.getElem?_eq_getElem h]
  rw [List.flatMap_append]
  simp [List.getD, h]
theorem footN_len (l : List Nat) : (footN l).length = 4 * l.length := by
  unfold footN
  induction l with
  | nil => rfl
  | cons x l ih =>
    rw [List.flatMap_cons, List.length_append, ih, List.length_cons]
    have : (w32 x).length = 4 := wordL_length _
    omega
theorem arr_at (a b c d e : Int) (w : World) : (∀ v, v = Value.int .i64 a → (Instr.index 124 (.agg #[.int .i64 a, .int .i64 b, .int .i64 c, .int .i64 d, .int .i64 e]) (.int .i64 0)).run Tryz.prog w = .ok v w) ∧
    (∀ v, v = Value.int .i64 b → (Instr.index 124 (.agg #[.int .i64 a, .int .i64 b, .int .i64 c, .int .i64 d, .int .i64 e]) (.int .i64 1)).run Tryz.prog w = .ok v w) ∧
    (∀ v, v = Value.int .i64 c → (Instr.index 124 (.agg #[.int .i64 a, .int .i64 b, .int .i64 c, .int .i64 d, .int .i64 e]) (.int .i64 2)).run Tryz.prog w = .ok v w) ∧
    (∀ v, v = Value.int .i64 d → (Instr.index 124 (.agg #[.int .i64 a, .int .i64 b, .int .i64 c, .int .i64 d, .int .i64 e]) (.int .i64 3)).run Tryz.prog w = .ok v w) ∧
    (∀ v, v = Value.int .i64 e → (Instr.index 124 (.agg #[.int .i64 a, .int .i64 b, .int .i64 c, .int .i64 d, .int .i64 e]) (.int .i64 4)).run Tryz.prog w = .ok v w) := by
  refine ⟨?_, ?_, ?_, ?_, ?_⟩ <;> (rintro _ rfl; kernel_rfl)
set_option maxRecDepth 20000 in
set_option maxHeartbeats 2000000 in
theorem foot_c (a b c d e : Nat) (w : World) (ht : Tab w) :
    Calls Tryz.prog 73 #[.agg #[.int .i64 (a : Int), .int .i64 (b : Int), .int .i64 (c : Int), .int .i64 (d : Int), .int .i64 (e : Int)]] w (NewRow (footB [a, b, c, d, e]) w) := by
  obtain ⟨l, hl⟩ : ∃ l, [a, b, c, d, e] = l := ⟨_, rfl⟩
  have hl5 : l.length = 5 := by rw [← hl]; rfl
  rw [hl]
  have HST := Lib.hid (fun k (h : k < 5) => footN_step l k (by rw [hl5]; exact h))
  have HLN := Lib.hid (fun k (h : k ≤ 5) => show (footN (l.take k)).length ≤ 20 by rw [footN_len, List.length_take]; omega)
  have HAL := Lib.hid (show footN (l.take 5) = footN l by rw [← hl5, List.take_length])
  have HT := Lib.hid ht
  have HFB : Hid (footB l = footN l ++ wordL (sumW (footN l))) := Lib.hid rfl
  obtain ⟨W0, hW0⟩ : ∃ W, w.alloc (.cells #[.int .i64 (a : Int), .int .i64 (b : Int), .int .i64 (c : Int), .int .i64 (d : Int), .int .i64 (e : Int)] 124) = W := ⟨_, rfl⟩
  have f0 : Fr No w W0 := by rw [← hW0]; exact (Fr.refl No w).alloc _
  have HW0 := Lib.hid hW0
  have F0 := Lib.hid f0
  have HLL := Lib.hid hl
  clear ht f0 hW0
  go_enter Tryz.func73, Tryz.ntmps73
  go_wp2_with fail
  try rw [HW0.out]
  go_loopw [3, 7] (fun v i wr => ∃ (k : Nat) (a2 : Option Addr) (n2 k2 : Nat), v = .slice a2 n2 k2 ∧ i = .int .i64 k ∧ k ≤ 5 ∧ Row wr (Gr No w wr) (.slice a2 n2 k2) (footN (l.take k)) ∧ Fr No w wr) (fun _ i _ => 5 - (intOf i).toNat)
  case atStart => exact ⟨0, none, 0, 0, rfl, rfl, by omega, Row.nil _ _, F0.out⟩
  case round =>
    obtain ⟨k, a2, n2, k2, rfl, rfl, hk, hrow, hfr⟩ := hrel
    have HR := Lib.hid hrow
    have HF := Lib.hid hfr
    clear hrow hfr
    by_cases hlt : k < 5
    · have h5 : k = 0 ∨ k = 1 ∨ k = 2 ∨ k = 3 ∨ k = 4 := by omega
      clear hlt hk
      rcases h5 with rfl | rfl | rfl | rfl | rfl
      · have hv : l.getD 0 0 = a := by rw [← HLL.out]; rfl
        have K := fun w => (arr_at (a : Int) (b : Int) (c : Int) (d : Int) (e : Int) w).1 _ rfl
        have hst := HST.out 0 (by omega)
        rw [hv] at hst
        have hwz : IntKind.u32.wrap (a : Int) = ((a % 4294967296 : Nat) : Int) := by simp [IntKind.wrap, IntKind.signed, IntKind.bits]
        have CW := Lib.hid (word_n ((a % 4294967296 : Nat) : Int) (by omega) (by omega) wr)
        have HSTE : Hid (footN (l.take (0 + 1)) = footN (l.take 0) ++ wordL ((a % 4294967296 : Nat) : Int)) := Lib.hid hst
        have hlen := HLN.out 0 (by omega)
        clear hst hv
        go_wp2_with fail
        refine (show Calls _ _ _ _ _ from CW.out).mono ?_
        rintro e1 w1 ⟨v1, rfl, r1, f1⟩
        obtain ⟨a1, cc1, rfl, q1, q2, in1⟩ := r1.form
        rw [wordL_length] at q1 ⊢
        obtain ⟨v', W, hrun, hrow, hfr2⟩ := (HR.out.grow f1).more (HF.out.trans f1) a1 4 cc1 (wordL ((a % 4294967296 : Nat) : Int)) (wordL_length _) in1.rd (by omega)
        rw [← HSTE.out] at hrow
        obtain ⟨a3, n3, c3, rfl⟩ := hrow.shape
        have HRUN := Lib.hid hrun
        have HROW := Lib.hid hrow
        have HFR := Lib.hid hfr2
        clear hrun hrow hfr2 r1 f1 in1 q1 q2 CW hlen
        go_wp2_with (at_builtin; refine wpList_append_run rfl _ _ 27 rfl rfl rfl HRUN.out ?_)
        go_roundw
        case rel => exact ⟨1, a3, n3, c3, rfl, by simp, by omega, HROW.out, HFR.out⟩
        case measure => simp [intOf]
      · have hv : l.getD 1 0 = b := by rw [← HLL.out]; rfl
        have K := fun w => (arr_at (a : Int) (b : Int) (c : Int) (d : Int) (e : Int) w).2.1 _ rfl
        have hst := HST.out 1 (by omega)
        rw [hv] at hst
        have hwz : IntKind.u32.wrap (b : Int) = ((b % 4294967296 : Nat) : Int) := by simp [IntKind.wrap, IntKind.signed, IntKind.bits]
        have CW := Lib.hid (word_n ((b % 4294967296 : Nat) : Int) (by omega) (by omega) wr)
        have HSTE : Hid (footN (l.take (1 + 1)) = footN (l.take 1) ++ wordL ((b % 4294967296 : Nat) : Int)) := Lib.hid hst
        have hlen := HLN.out 1 (by omega)
        clear hst hv
        go_wp2_with fail
        refine (show Calls _ _ _ _ _ from CW.out).mono ?_
        rintro e1 w1 ⟨v1, rfl, r1, f1⟩
        obtain ⟨a1, cc1, rfl, q1, q2, in1⟩ := r1.form
        rw [wordL_length] at q1 ⊢
        obtain ⟨v', W, hrun, hrow, hfr2⟩ := (HR.out.grow f1).more (HF.out.trans f1) a1 4 cc1 (wordL ((b % 4294967296 : Nat) : Int)) (wordL_length _) in1.rd (by omega)
        rw [← HSTE.out] at hrow
        obtain ⟨a3, n3, c3, rfl⟩ := hrow.shape
        have HRUN := Lib.hid hrun
        have HROW := Lib.hid hrow
        have HFR := Lib.hid hfr2
        clear hrun hrow hfr2 r1 f1 in1 q1 q2 CW hlen
        go_wp2_with (at_builtin; refine wpList_append_run rfl _ _ 27 rfl rfl rfl HRUN.out ?_)
        go_roundw
        case rel => exact ⟨2, a3, n3, c3, rfl, by simp, by omega, HROW.out, HFR.out⟩
        case measure => simp [intOf]
      · have hv : l.getD 2 0 = c := by rw [← HLL.out]; rfl
        have K := fun w => (arr_at (a : Int) (b : Int) (c : Int) (d : Int) (e : Int) w).2.2.1 _ rfl
        have hst := HST.out 2 (by omega)
        rw [hv] at hst
        have hwz : IntKind.u32.wrap (c : Int) = ((c % 4294967296 : Nat) : Int) := by simp [IntKind.wrap, IntKind.signed, IntKind.bits]
        have CW := Lib.hid (word_n ((c % 4294967296 : Nat) : Int) (by omega) (by omega) wr)
        have HSTE : Hid (footN (l.take (2 + 1)) = footN (l.take 2) ++ wordL ((c % 4294967296 : Nat) : Int)) := Lib.hid hst
        have hlen := HLN.out 2 (by omega)
        clear hst hv
        go_wp2_with fail
        refine (show Calls _ _ _ _ _ from CW.out).mono ?_
        rintro e1 w1 ⟨v1, rfl, r1, f1⟩
        obtain ⟨a1, cc1, rfl, q1, q2, in1⟩ := r1.form
        rw [wordL_length] at q1 ⊢
        obtain ⟨v', W, hrun, hrow, hfr2⟩ := (HR.out.grow f1).more (HF.out.trans f1) a1 4 cc1 (wordL ((c % 4294967296 : Nat) : Int)) (wordL_length _) in1.rd (by omega)
        rw [← HSTE.out] at hrow
        obtain ⟨a3, n3, c3, rfl⟩ := hrow.shape
        have HRUN := Lib.hid hrun
        have HROW := Lib.hid hrow
        have HFR := Lib.hid hfr2
        clear hrun hrow hfr2 r1 f1 in1 q1 q2 CW hlen
        go_wp2_with (at_builtin; refine wpList_append_run rfl _ _ 27 rfl rfl rfl HRUN.out ?_)
        go_roundw
        case rel => exact ⟨3, a3, n3, c3, rfl, by simp, by omega, HROW.out, HFR.out⟩
        case measure => simp [intOf]
      · have hv : l.getD 3 0 = d := by rw [← HLL.out]; rfl
        have K := fun w => (arr_at (a : Int) (b : Int) (c : Int) (d : Int) (e : Int) w).2.2.2.1 _ rfl
        have hst := HST.out 3 (by omega)
        rw [hv] at hst
        have hwz : IntKind.u32.wrap (d : Int) = ((d % 4294967296 : Nat) : Int) := by simp [IntKind.wrap, IntKind.signed, IntKind.bits]
        have CW := Lib.hid (word_n ((d % 4294967296 : Nat) : Int) (by omega) (by omega) wr)
        have HSTE : Hid (footN (l.take (3 + 1)) = footN (l.take 3) ++ wordL ((d % 4294967296 : Nat) : Int)) := Lib.hid hst
        have hlen := HLN.out 3 (by omega)
        clear hst hv
        go_wp2_with fail
        refine (show Calls _ _ _ _ _ from CW.out).mono ?_
        rintro e1 w1 ⟨v1, rfl, r1, f1⟩
        obtain ⟨a1, cc1, rfl, q1, q2, in1⟩ := r1.form
        rw [wordL_length] at q1 ⊢
        obtain ⟨v', W, hrun, hrow, hfr2⟩ := (HR.out.grow f1).more (HF.out.trans f1) a1 4 cc1 (wordL ((d % 4294967296 : Nat) : Int)) (wordL_length _) in1.rd (by omega)
        rw [← HSTE.out] at hrow
        obtain ⟨a3, n3, c3, rfl⟩ := hrow.shape
        have HRUN := Lib.hid hrun
        have HROW := Lib.hid hrow
        have HFR := Lib.hid hfr2
        clear hrun hrow hfr2 r1 f1 in1 q1 q2 CW hlen
        go_wp2_with (at_builtin; refine wpList_append_run rfl _ _ 27 rfl rfl rfl HRUN.out ?_)
        go_roundw
        case rel => exact ⟨4, a3, n3, c3, rfl, by simp, by omega, HROW.out, HFR.out⟩
        case measure => simp [intOf]
      · have hv : l.getD 4 0 = e := by rw [← HLL.out]; rfl
        have K := fun w => (arr_at (a : Int) (b : Int) (c : Int) (d : Int) (e : Int) w).2.2.2.2 _ rfl
        have hst := HST.out 4 (by omega)
        rw [hv] at hst
        have hwz : IntKind.u32.wrap (e : Int) = ((e % 4294967296 : Nat) : Int) := by simp [IntKind.wrap, IntKind.signed, IntKind.bits]
        have CW := Lib.hid (word_n ((e % 4294967296 : Nat) : Int) (by omega) (by omega) wr)
        have HSTE : Hid (footN (l.take (4 + 1)) = footN (l.take 4) ++ wordL ((e % 4294967296 : Nat) : Int)) := Lib.hid hst
        have hlen := HLN.out 4 (by omega)
        clear hst hv
        go_wp2_with fail
        refine (show Calls _ _ _ _ _ from CW.out).mono ?_
        rintro e1 w1 ⟨v1, rfl, r1, f1⟩
        obtain ⟨a1, cc1, rfl, q1, q2, in1⟩ := r1.form
        rw [wordL_length] at q1 ⊢
        obtain ⟨v', W, hrun, hrow, hfr2⟩ := (HR.out.grow f1).more (HF.out.trans f1) a1 4 cc1 (wordL ((e % 4294967296 : Nat) : Int)) (wordL_length _) in1.rd (by omega)
        rw [← HSTE.out] at hrow
        obtain ⟨a3, n3, c3, rfl⟩ := hrow.shape
        have HRUN := Lib.hid hrun
        have HROW := Lib.hid hrow
        have HFR := Lib.hid hfr2
        clear hrun hrow hfr2 r1 f1 in1 q1 q2 CW hlen
        go_wp2_with (at_builtin; refine wpList_append_run rfl _ _ 27 rfl rfl rfl HRUN.out ?_)
        go_roundw
        case rel => exact ⟨5, a3, n3, c3, rfl, by simp, by omega, HROW.out, HFR.out⟩
        case measure => simp [intOf]
    · have hk5 : k = 5 := by omega
      subst hk5
      rw [HAL.out] at HR
      have hnl : (footN l).length = 20 := by rw [footN_len, hl5]
      obtain ⟨a9, c9, e9, l9, m9, i9⟩ := HR.out.form
      rw [hnl] at e9 l9
      injection e9 with e9a e9b e9c
      subst e9a e9b e9c
      have hlt := bv_lt (Crc.of (footN l))
      have H1 := Lib.hid (of_c a2 20 k2 (footN l) wr hnl (by omega) i9.rd (HT.out.keep HF.out (fun h => h)))
      have H2 := Lib.hid (mask_c ((Crc.of (footN l)).toNat : Int) wr (by omega) (by omega))
      have hs := sumW_range (footN l)
      have H3 := Lib.hid (word_n (sumW (footN l)) hs.1 hs.2 wr)
      have HE : Hid (mk ((Crc.of (footN l)).toNat : Int) = sumW (footN l)) := Lib.hid rfl
      rw [HE.out] at H2
      generalize sumW (footN l) = s at *
      generalize (Crc.of (footN l)).toNat = cc at *
      have HNL := Lib.hid hnl
      clear i9 hnl
      go_wp2_with fail
      refine (show Calls _ _ _ _ _ from H1.out).mono ?_
      rintro e1 w' ⟨rfl, rfl⟩
      go_wp2_with fail
      refine (show Calls _ _ _ _ _ from H2.out).mono ?_
      rintro e1 w' ⟨rfl, rfl⟩
      go_wp2_with fail
      refine (show Calls _ _ _ _ _ from H3.out).mono ?_
      rintro e1 w1 ⟨v1, rfl, r1, f1⟩
      obtain ⟨a1, cc1, rfl, q1, q2, in1⟩ := r1.form
      rw [wordL_length] at q1 ⊢
      obtain ⟨v', W, hrun, hrow, hfr2⟩ := (HR.out.grow f1).more (HF.out.trans f1) a1 4 cc1 (wordL s) (wordL_length _) in1.rd (by rw [HNL.out]; omega)
      have HRUN := Lib.hid hrun
      have HFIN : Hid (NewRow (footB l) w (.returned v') W) := Lib.hid ⟨v', rfl, by rw [HFB.out]; exact hrow, hfr2⟩
      clear hrun hrow hfr2 r1 f1 in1 q1 q2
      go_wp2_with (at_builtin; refine wpList_append_run rfl _ _ 27 rfl rfl rfl HRUN.out ?_)
      go_ret
      exact HFIN.out
end Go.Proofs.YtlobnbbndkhcbaaGreatDoor
