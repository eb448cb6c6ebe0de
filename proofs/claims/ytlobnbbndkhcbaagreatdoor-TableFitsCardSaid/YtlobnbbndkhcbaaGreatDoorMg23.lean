/-
  Texts of layer 13 and of what it stands on, one behind the other.
-/
import Derived.Test.YtlobnbbndkhcbaaGreatDoorMg15
import Derived.Test.YtlobnbbndkhcbaaGreatDoorMg21
import Derived.Test.YtlobnbbndkhcbaaGreatDoorMg09
import Derived.StillTailTactics
import Derived.Test.YtlobnbbndkhcbaaGreatDoorMg10

/- Layer 13: contracts of the law's small and plain. -/
namespace Go.Proofs.YtlobnbbndkhcbaaGreatDoor
set_option linter.unusedVariables false
open Go.RowKit

def Small13 (l : List Ent) (most : Int) : Prop := LoE l ∧ (l.length : Int) ≤ most
instance (l : List Ent) : Decidable (LoE l) := by unfold LoE; infer_instance
instance (l : List Ent) (most : Int) : Decidable (Small13 l most) := by unfold Small13; infer_instance
set_option maxRecDepth 20000 in
set_option maxHeartbeats 1600000 in
theorem small13_c (a : Option Addr) (n cap : Nat) (l : List Ent) (most : Int) (S : Nat → Prop) (w : World) (hn : l.length = n) (hm : n ≤ maxLen) (hi : Ents w S a l) :
    Calls Tryz.prog 9 #[.slice a n cap, .int .i64 most] w (PlainRet (.bool (decide (Small13 l most))) w) := by
  unfold maxLen at hm
  have HNO : Hid (∀ k, k < n → (200 < (l.getD k ent0).u.size ∨ 300 < (l.getD k ent0).val.size) → decide (Small13 l most) = false) := Lib.hid fun k hk h => by
    rw [decide_eq_false_iff_not]
    intro h'
    have := h'.1 _ (getD_memE l k (by omega))
    omega
  have HYES : Hid ((∀ j, j < n → (l.getD j ent0).u.size ≤ 200 ∧ (l.getD j ent0).val.size ≤ 300) → decide (Small13 l most) = decide ((n : Int) ≤ most)) := Lib.hid fun h => by
    refine decide_eq_decide.2 ⟨fun h' => hn ▸ h'.2, fun h' => ⟨fun x hx => ?_, by rw [hn]; exact h'⟩⟩
    obtain ⟨i, hi, rfl⟩ := List.getElem_of_mem hx
    have := h i (by omega)
    rw [getD_ent l i hi] at this
    exact this
  have HI := Lib.hid hi
  have HL := Lib.hid hn
  clear hi hn
  generalize decide (Small13 l most) = R at *
  go_enter Tryz.func9, Tryz.ntmps9
  go_wp2_with fail
  go_loopw [9] (fun i wr => ∃ k : Nat, i = .int .i64 k ∧ k ≤ n ∧ Fr No w wr ∧ ∀ j, j < k → (l.getD j ent0).u.size ≤ 200 ∧ (l.getD j ent0).val.size ≤ 300) (fun i _ => n - (intOf i).toNat)
  case atStart => exact ⟨0, rfl, Nat.zero_le _, Fr.refl _ _, fun j h => absurd h (by omega)⟩
  case round =>
    obtain ⟨k, rfl, hk, hfr, hall⟩ := hrel
    have HA := Lib.hid hall
    have HR := Lib.hid hfr
    clear hall hfr
    by_cases hlt : k < n
    · have hkl : k < l.length := by rw [HL.out]; exact hlt
      obtain ⟨b, o, _, rfl, hx⟩ := HI.out (by omega)
      have hx := (hx k hkl).keep HR.out (fun h => h)
      have HK := Lib.hid (HNO.out k hlt)
      obtain ⟨x, hy⟩ : ∃ x, l.getD k ent0 = x := ⟨_, rfl⟩
      rewrite [hy] at hx HK
      have HY := Lib.hid hy
      clear hy
      obtain ⟨c0, c1, c2, c3⟩ := hx
      by_cases h5 : 200 < (x.u.size : Int)
      · have HN := Lib.hid (HK.out (.inl (by omega)))
        go_wp2_with fail
        go_ret
        exact ⟨by rw [HN.out]; rfl, HR.out.alloc _⟩
      · by_cases h6 : 300 < (x.val.size : Int)
        · have HN := Lib.hid (HK.out (.inr (by omega)))
          go_wp2_with fail
          go_ret
          exact ⟨by rw [HN.out]; rfl, HR.out.alloc _⟩
        · have HA2 : Hid (∀ j, j < k + 1 → (l.getD j ent0).u.size ≤ 200 ∧ (l.getD j ent0).val.size ≤ 300) := Lib.hid (fun j hj => by
            rcases Nat.lt_or_ge j k with h | h
            · exact HA.out j h
            · have : j = k := by omega
              subst this
              rw [HY.out]
              omega)
          go_wp2_with fail
          go_roundw
          case rel => exact ⟨k + 1, by simp, by omega, HR.out.alloc _, HA2.out⟩
          case measure => simp [intOf]; omega
    · have hk' : k = n := by omega
      have HN := Lib.hid (HYES.out fun j hj => HA.out j (by omega))
      have Hk := Lib.hid hk'
      clear hk'
      go_wp2_with fail
      go_ret
      refine ⟨?_, HR.out⟩
      rw [HN.out]
      rfl
def plainO : Opt := ⟨40, 4, 10⟩
theorem infoOpt : (Tryz.prog.info? 24).map (·.size) = some 3 := by kernel_rfl
theorem plain_results (tmps : Array Value) (w : World) (g : Nat) (x y z : Value) (hp : tmps.getD 0 undef = .pointer (some ⟨g, 0, none⟩)) (hg : At w g 24 #[x, y, z]) :
    (results Tryz.f31 tmps).run Tryz.prog w = .ok (.agg #[x, y, z]) w := by
  have hp' : tmps[0]?.getD undef = .pointer (some ⟨g, 0, none⟩) := by simpa using hp
  have hl := run_loadVar_row (P := Tryz.prog) w g 24 24 #[x, y, z] (0, 0) _ hg Tryz.underlying24 rfl infoOpt
  simp [results, Tryz.results31, hp', asAddr, hl]
set_option maxHeartbeats 400000 in
theorem plain_c (w : World) : Calls Tryz.prog 31 #[] w (PlainRet (optV plainO) w) := by
  have A2 := Lib.hid (At.new w 24 #[.int .i64 40, .int .i64 4, .int .i64 10])
  have F2 := Lib.hid ((Fr.refl No w).alloc (.cells #[.int .i64 40, .int .i64 4, .int .i64 10] 24))
  go_enter Tryz.func31, Tryz.ntmps31
  go_wp2_with fail
  exact bodyPost_ret (plain_results _ _ _ _ _ _ rfl A2.out) rfl ⟨rfl, F2.out⟩
/-! ### The fixed answer. -/
def e13 : Ent := ⟨⟨#[97]⟩, 1, 1, ⟨#[120]⟩⟩
theorem right13 : RightL [e13] := by decide
theorem ents13 (w : World) (t : TypeId) : Ents (w.alloc (.cells #[.string ⟨#[97]⟩, .int .i64 1, .int .i64 1, .string ⟨#[120]⟩] t)) (One w.heap.size) (some ⟨w.heap.size, 0, none⟩) [e13] := fun _ => by
  refine ⟨_, 0, rfl, rfl, fun i hi => ?_⟩
  have h : i = 0 := by simp at hi; omega
  subst h
  exact ⟨by rw [cell_of_row _ _ _ _ t (0, 0) (heap_alloc_new w _)]; rfl, by rw [cell_of_row _ _ _ _ t (0, 0) (heap_alloc_new w _)]; rfl, by rw [cell_of_row _ _ _ _ t (0, 0) (heap_alloc_new w _)]; rfl, by rw [cell_of_row _ _ _ _ t (0, 0) (heap_alloc_new w _)]; rfl⟩
theorem get13 : getE [e13] ⟨#[97]⟩ 1 = 0 := by decide
section
variable {TB : List Ent → Opt → List UInt8} {NB : List Ent → Opt → Nat} {Tb : World → Prop} {T : World → Nat → (Nat → Prop) → List Ent → Nat → Prop}
/-- Build, where it tells bytes; Open of them. -/
theorem open13 (H : TableCore TB NB Tb T) (w : World) (a : Option Addr) (n cap : Nat) (l : List Ent) (o : Opt) (ht : Tb w) (hn : (TB l o).length = n) (h1 : n ≤ cap) (h2 : cap ≤ maxLen) (hlow : LoE l) (h60 : l.length ≤ 60) (hr : Rd w a (TB l o)) (ho : OkO o) (hl : RightL l) :
    Calls Tryz.prog 18 #[.slice a n cap] w fun en w' => ∃ t F, en = .returned (.tuple #[.pointer (some ⟨t, 0, none⟩), .int .i64 0]) ∧ T w' t F l (NB l o) ∧ 1 ≤ NB l o ∧ NB l o ≤ l.length ∧ (∀ k, F k → w.heap.size ≤ k) ∧ Fr No w w' := by
  have h200 := H.lenB l o ho hl hlow h60
  refine (H.open_ w a n cap (TB l o) ht hn h1 h2 (by omega) hr).mono ?_
  rintro en w' (⟨t, F, l', c, rfl, g1, g2, g3, g4, g5, g6, g7, g8, g9⟩ | ⟨g1, _⟩)
  · obtain ⟨rfl, rfl⟩ := g8 l o ho hl rfl
    exact ⟨t, F, rfl, g1, g5, g6, g2, g9⟩
  · exact absurd rfl (g1 l o ho hl)
set_option maxRecDepth 20000 in
set_option maxHeartbeats 3200000 in
theorem awake13_c (H : TableCore TB NB Tb T) (w : World) (ht : Tb w) : Calls Tryz.prog 10 #[] w (PlainRet (.bool true) w) := by
  have hla := H.lenA e13 plainO (by decide) (by decide) (by decide) (by decide)
  have hna := H.numA e13 plainO (by decide) (by decide)
  have he : buildTE TB [e13] plainO 1000 = 0 := by
    unfold buildTE
    rw [if_neg (fun h => h (by decide)), if_neg (fun h => h right13), if_neg (by omega)]
  have HA : Hid (Fr No w (w.alloc (.cells #[.string ⟨#[97]⟩, .int .i64 1, .int .i64 1, .string ⟨#[120]⟩] 49))) := Lib.hid ((Fr.refl _ _).alloc _)
  have HB : Hid (∀ w1, Fr No (w.alloc (.cells #[.string ⟨#[97]⟩, .int .i64 1, .int .i64 1, .string ⟨#[120]⟩] 49)) w1 → Calls Tryz.prog 11 #[.slice (some ⟨w.heap.size, 0, none⟩) 1 1, optV plainO, .int .i64 1000] w1 (BuildT TB [e13] plainO 1000 w1)) := Lib.hid fun w1 f =>
    H.build w1 (One w.heap.size) _ 1 1 [e13] plainO 1000 (H.tabK (H.tabK ht HA.out) f) rfl (by omega) (by unfold maxLen; omega) (by omega) (by decide) ((ents13 w _).keep f (fun _ _ h => h)) (fun x hx => by rw [List.mem_singleton.1 hx]; exact ⟨by decide, rfl, rfl, by decide⟩) ⟨rfl, rfl, rfl⟩ (by decide)
  have HH := Lib.hid H
  have HT := Lib.hid ht
  have HE := Lib.hid he
  have HN := Lib.hid hna
  clear H ht he hla hna
  go_enter Tryz.func10, Tryz.ntmps10
  go_wp2_with fail
  refine (plain_c _).mono ?_
  rintro e w1 ⟨rfl, f1⟩
  have HB1 := Lib.hid (HB.out w1 f1)
  have HF1 := Lib.hid (HA.out.trans f1)
  clear f1 HB HA
  unfold optV plainO at HB1 ⊢
  go_wp2_with fail
  refine (show Calls _ _ _ _ _ from HB1.out).mono ?_
  rintro e w2 ⟨v, rfl, hrow, f2⟩
  have he : buildTE TB [e13] ⟨40, 4, 10⟩ 1000 = 0 := HE.out
  rw [he, if_pos rfl] at hrow
  rw [he]
  obtain ⟨a, cap, rfl, hb, hm, hin⟩ := hrow.form
  have HF2 := Lib.hid (HF1.out.trans f2)
  have CO := Lib.hid (open13 HH.out w2 a _ cap [e13] plainO (HH.out.tabK HT.out HF2.out) rfl hb hm (by decide) (by decide) hin.rd (by decide) right13)
  rw [HN.out] at CO
  have CO : Hid (Calls Tryz.prog 18 #[.slice a (TB [e13] ⟨40, 4, 10⟩).length cap] w2 _) := CO
  generalize (TB [e13] ⟨40, 4, 10⟩).length = bn at *
  clear hrow f2 hin he hb hm HB1
  go_wp2_with fail
  refine (show Calls _ _ _ _ _ from CO.out).mono ?_
  rintro e w3 ⟨t, F, rfl, hT, _, _, hF, f3⟩
  have HF3 := Lib.hid (HF2.out.trans f3)
  have HTT := Lib.hid hT
  have CG := Lib.hid (HH.out.get w3 t F [e13] 1 ⟨#[97]⟩ 1 hT (by decide) (by decide))
  rw [show gotE [e13] ⟨#[97]⟩ 1 = e13 from rfl, get13] at CG
  clear hT hF f3 CO
  unfold entV e13 at CG
  go_wp2_with fail
  refine (show Calls _ _ _ _ _ from CG.out).mono ?_
  rintro e w4 ⟨rfl, f4⟩
  have HT4 := Lib.hid (HH.out.keep HTT.out f4 (fun _ _ h => h))
  have HF4 := Lib.hid (HF3.out.trans f4)
  have hd : decide ((0 : Int) ≤ 0) = true := by decide
  rw [hd]
  obtain ⟨w5, hw5⟩ : ∃ w5, w4.alloc (.cells #[.string ⟨#[97]⟩, .int .i64 1, .int .i64 1, .string ⟨#[120]⟩] 49) = w5 := ⟨_, rfl⟩
  have f5 : Fr No w4 w5 := by rw [← hw5]; exact (Fr.refl No w4).alloc _
  have a5 : At w5 w4.heap.size 49 #[.string ⟨#[97]⟩, .int .i64 1, .int .i64 1, .string ⟨#[120]⟩] := by rw [← hw5]; exact At.new _ _ _
  have c3 := a5.cell 3
  rw [← hw5] at c3
  have HT5 := Lib.hid (HH.out.keep HT4.out f5 (fun _ _ h => h))
  have HF5 := Lib.hid (HF4.out.trans f5)
  have CL := Lib.hid (HH.out.len w5 t F [e13] 1 HT5.out)
  have HW5 := Lib.hid hw5
  have hsl : ((⟨#[120]⟩ : ByteArray).toList == (⟨#[120]⟩ : ByteArray).toList) = true := by simp
  clear f4 f5 a5 hw5 CG HTT HT4 HF3 HF4
  go_wp2_with fail
  rw [HW5.out]
  refine (show Calls _ _ _ _ _ from CL.out).mono ?_
  rintro e w6 ⟨rfl, f6⟩
  have CB := Lib.hid (HH.out.blocks w6 t F [e13] 1 (HH.out.keep HT5.out f6 (fun _ _ h => h)))
  have HF6 := Lib.hid (HF5.out.trans f6)
  have hl1 : (([e13].length : Nat) : Int) = 1 := rfl
  rw [hl1]
  clear f6 CL
  go_wp2_with fail
  refine (show Calls _ _ _ _ _ from CB.out).mono ?_
  rintro e w7 ⟨rfl, f7⟩
  go_wp2_with fail
  go_ret
  exact ⟨rfl, HF6.out.trans f7⟩
end
end Go.Proofs.YtlobnbbndkhcbaaGreatDoor

/- Layer 13: entries cut in two. -/
namespace Go.Proofs.YtlobnbbndkhcbaaGreatDoor
set_option linter.unusedVariables false
open Go.RowKit

theorem size_et (w : World) : (sizeOf 49).run Tryz.prog w = .ok 4 w := by kernel_rfl
/-- The address of 'l[k:]'. -/
def cutE (a : Option Addr) (k cap : Nat) : Option Addr := if cap = k then a else a.map (·.add (k * 4))
theorem cutE_zero (a : Option Addr) (cap : Nat) : cutE a 0 cap = a := by
  unfold cutE
  split
  · rfl
  · cases a <;> simp [Addr.add]
theorem cutE_hi (a : Option Addr) (len cap hi : Nat) (h2 : hi ≤ cap) (w : World) :
    (Instr.slice 22 (.slice a len cap) none (some (.int .i64 (hi : Int))) none).run Tryz.prog w = .ok (.slice a hi cap) w := by
  have he : Tryz.prog.elem 22 = 49 := by simp [Program.elem, Tryz.underlying22]
  have ht' : Tryz.prog.underlying 22 = some (.slice (Tryz.prog.elem 22)) := by rw [he]; exact Tryz.underlying22
  rw [run_slice_h w 22 a len cap ht' .i64 hi (by omega) (by omega), he, size_et]
  have := cutE_zero a cap
  simp [Result.andThen, sliced]
  simpa [cutE] using this
theorem cutE_lo (a : Option Addr) (len cap lo : Nat) (h1 : lo ≤ len) (w : World) :
    (Instr.slice 22 (.slice a len cap) (some (.int .i64 (lo : Int))) none none).run Tryz.prog w = .ok (.slice (cutE a lo cap) (len - lo) (cap - lo)) w := by
  have he : Tryz.prog.elem 22 = 49 := by simp [Program.elem, Tryz.underlying22]
  have ht' : Tryz.prog.underlying 22 = some (.slice (Tryz.prog.elem 22)) := by rw [he]; exact Tryz.underlying22
  rw [run_slice_l w 22 a len cap ht' .i64 lo (by omega) (by omega), he, size_et]
  simp [Result.andThen, sliced, cutE]
theorem getD_take_et (l : List Ent) (k i : Nat) (h : i < k) : (l.take k).getD i ent0 = l.getD i ent0 := by
  simp [List.getD, h]
theorem getD_drop_et (l : List Ent) (k i : Nat) : (l.drop k).getD i ent0 = l.getD (k + i) ent0 := by
  simp [List.getD, List.getElem?_drop]
theorem Ents.take {w : World} {S : Nat → Prop} {a : Option Addr} {l : List Ent} (h : Ents w S a l) (k : Nat) : Ents w S a (l.take k) := fun hl => by
  have hl' : 0 < l.length := by simp at hl; omega
  obtain ⟨b, o, hb, ha, hc⟩ := h hl'
  refine ⟨b, o, hb, ha, fun i hi => ?_⟩
  have hi' : i < k ∧ i < l.length := by simp at hi; omega
  rw [getD_take_et l k i hi'.1]
  exact hc i hi'.2
theorem Ents.drop {w : World} {S : Nat → Prop} {a : Option Addr} {l : List Ent} (h : Ents w S a l) (k cap : Nat) (hcap : l.length ≤ cap) : Ents w S (cutE a k cap) (l.drop k) := fun hl => by
  have hl' : k < l.length := by simp at hl; omega
  obtain ⟨b, o, hb, rfl, hc⟩ := h (by omega)
  refine ⟨b, o + k * 4, hb, ?_, fun i hi => ?_⟩
  · unfold cutE
    rw [if_neg (by omega)]
    unfold Addr.add
    by_cases h0 : k = 0
    · simp [h0]
    · have : ¬ k * 4 = 0 := by omega
      simp [this]
  · have hi' : k + i < l.length := by simp at hi; omega
    rw [getD_drop_et l k i, show o + k * 4 + i * 4 = o + (k + i) * 4 by omega]
    exact hc (k + i) hi'
theorem LoE.take {l : List Ent} (h : LoE l) (k : Nat) : LoE (l.take k) := fun x hx => h x (List.mem_of_mem_take hx)
theorem LoE.drop {l : List Ent} (h : LoE l) (k : Nat) : LoE (l.drop k) := fun x hx => h x (List.mem_of_mem_drop hx)
end Go.Proofs.YtlobnbbndkhcbaaGreatDoor

/- Contracts of layer 3's functions that take a key's bytes apart: cutUser, readTail. -/
namespace Go.Proofs.YtlobnbbndkhcbaaGreatDoor
set_option linter.unusedVariables false
open Go.RowKit

def CutRet (l : List UInt8) (w : World) (e : Ending) (w' : World) : Prop := Fr No w w' ∧
  ((cutS [] l = none ∧ e = .returned (.tuple #[.string (strOf []), .slice none 0 0, .bool false])) ∨
   ∃ u t a' n' c', cutS [] l = some (u, t) ∧ t.length = n' ∧ n' ≤ 140737488355328 ∧ n' ≤ c' ∧ Rd w' a' t ∧ e = .returned (.tuple #[.string (strOf u), .slice a' n' c', .bool true]))

theorem sizeU8K (w : World) : (sizeOf 5).run Tryz.prog w = .ok 1 w := size_one cellsU8 (by
  obtain ⟨i0, hi, _, hz1, _⟩ := info_parts infoU8
  exact ⟨i0, hi, hz1⟩) w
set_option maxRecDepth 20000 in
set_option maxHeartbeats 2000000 in
theorem cutUser_c (a : Option Addr) (len cap : Nat) (l : List UInt8) (w : World) (hl : l.length = len) (hcap : len ≤ cap) (hm : len ≤ 140737488355328) (hr : Rd w a l) :
    Calls Tryz.prog 141 #[.slice a len cap] w (CutRet l w) := by
  have HL := Lib.hid hl
  have HR := Lib.hid hr
  clear hl hr
  go_enter Tryz.func141, Tryz.ntmps141
  go_wp2_with fail
  go_loopw [5, 6] (fun u i wr => ∃ (k : Nat) (p : List UInt8), i = .int .i64 k ∧ k ≤ len ∧ Row wr (Gr No w wr) u p ∧ p.length ≤ k ∧ Fr No w wr ∧ cutS [] l = cutS p (l.drop k)) (fun _ i _ => len - (intOf i).toNat)
  case atStart => exact ⟨0, [], rfl, Nat.zero_le _, Row.nil _ _, Nat.le_refl _, Fr.refl _ _, rfl⟩
  case round =>
    obtain ⟨k, p, rfl, hk, hrow, hp, hfr, he⟩ := hrel
    have HE := Lib.hid he
    have HF := Lib.hid hfr
    clear he
    by_cases h1 : k < len
    · have hrd := HR.out.keep hfr
      obtain ⟨b, o, ha, hc⟩ := hrd (by rw [HL.out]; omega)
      subst ha
      have c0 := hc k (by rw [HL.out]; exact h1)
      by_cases h2 : l.getD k 0 = 0
      · have hz : ((l.getD k 0).toNat : Int) = 0 := by rw [h2]; rfl
        rw [hz] at c0
        by_cases h3 : k + 1 < len
        · have c1 := hc (k + 1) (by rw [HL.out]; exact h3)
          have HS := Lib.hid (cutS_zero p l k (by rw [HL.out]; exact h3) h2)
          by_cases h4 : l.getD (k + 1) 0 = 1
          · have h41 : ((l.getD (k + 1) 0).toNat : Int) = 1 := by rw [h4]; rfl
            rw [h41] at c1
            obtain ⟨ua, uc, rfl, hu1, hu2, hin⟩ := hrow.form
            have kc := conv_rd wr.drew ua p.length uc p rfl hin.rd
            have ks := cut_lo (P := Tryz.prog) Tryz.underlying27 sizeU8K (some ⟨b, o, none⟩) len cap (k + 2) (by omega)
            rw [show ((k + 2 : Nat) : Int) = (k : Int) + 2 by omega] at ks
            have hw : IntKind.i64.wrap ((k : Int) + 1 + 1) = (k : Int) + 2 := (IntWalk.i64_in _ ⟨by omega, by omega⟩).trans (by omega)
            have HN : Hid (∀ n, CutRet l w (.returned (.tuple #[.string (strOf p), .slice (cutAt (some ⟨b, o, none⟩) (k + 2) cap) (len - (k + 2)) (cap - (k + 2)), .bool true])) (wr.drewN n)) := Lib.hid fun n => ⟨HF.out.drewN n, .inr ⟨p, l.drop (k + 2), _, _, _, by rw [HE.out, HS.out, if_pos h4], by rw [List.length_drop, HL.out], by omega, by omega, ((HR.out.keep HF.out).drop (k + 2) cap (by rw [HL.out]; exact hcap)), rfl⟩⟩
            clear hrow hfr hin hc hrd
            go_wp2_with fail
            go_still (by kernel_rfl)
            go_wp2_with fail
            go_ret3
            exact HN.out 1
          · have h41 : ¬ (l.getD (k + 1) 0).toNat = 1 := fun e => h4 (UInt8.toNat_inj.1 (e.trans rfl))
            by_cases h5 : l.getD (k + 1) 0 = 255
            · have h51 : ((l.getD (k + 1) 0).toNat : Int) = 255 := by rw [h5]; rfl
              rw [h51] at c1
              obtain ⟨v1, w1, hrun, hrow1, hfr1⟩ := hrow.push gr_lt 0 (by omega)
              rw [show (((0 : UInt8).toNat : Nat) : Int) = 0 from rfl] at hrun
              have HR1 := Lib.hid hrun
              have HW := Lib.hid (hrow1.join hfr.size hfr1.size)
              have HF1 := Lib.hid (hfr.then_ hfr1 fun k hk h => Gr.old hk h)
              have HE2 := Lib.hid (show cutS [] l = cutS (p ++ [0]) (l.drop (k + 2)) by rw [HE.out, HS.out, if_neg h4, if_pos h5])
              clear hrun hrow hrow1 hfr hfr1 hc hrd h41 h4 h5
              go_wp2_with (at_builtin; refine wpList_append_run rfl _ _ 27 rfl rfl rfl HR1.out ?_)
              go_roundw
              case rel => exact ⟨k + 2, p ++ [0], by simp; omega, by omega, HW.out, by simp; omega, HF1.out, HE2.out⟩
              case measure => simp [intOf]; omega
            · have h51 : ¬ (l.getD (k + 1) 0).toNat = 255 := fun e => h5 (UInt8.toNat_inj.1 (e.trans rfl))
              have HN : Hid (CutRet l w (.returned (.tuple #[.string (strOf []), .slice none 0 0, .bool false])) wr) := Lib.hid ⟨HF.out, .inl ⟨by rw [HE.out, HS.out, if_neg h4, if_neg h5], rfl⟩⟩
              generalize (l.getD (k + 1) 0).toNat = m at c1 h41 h51
              have hb : ((m : Int) == 255) = false := by rw [beq_eq_false_iff_ne]; omega
              have hb' : ((m : Int) != 255) = true := by rw [bne_iff_ne]; omega
              clear hrow hfr hc hrd h4 h5
              go_wp2_with fail
              go_ret3
              exact HN.out
        · have hk1 : k + 1 = len := by omega
          have HN : Hid (CutRet l w (.returned (.tuple #[.string (strOf []), .slice none 0 0, .bool false])) wr) := Lib.hid ⟨HF.out, .inl ⟨by rw [HE.out, cutS_last p l k (by rw [HL.out]; exact hk1)], rfl⟩⟩
          subst hk1
          clear hrow hfr hc hrd
          go_wp2_with fail
          go_ret3
          exact HN.out
      · have hz : ¬ (l.getD k 0).toNat = 0 := fun e => h2 (UInt8.toNat_inj.1 (e.trans rfl))
        obtain ⟨v1, w1, hrun, hrow1, hfr1⟩ := hrow.push gr_lt (l.getD k 0) (by omega)
        have HR1 := Lib.hid hrun
        have HW := Lib.hid (hrow1.join hfr.size hfr1.size)
        have HF1 := Lib.hid (hfr.then_ hfr1 fun k hk h => Gr.old hk h)
        have HE2 := Lib.hid (show cutS [] l = cutS (p ++ [l.getD k 0]) (l.drop (k + 1)) by rw [HE.out, cutS_other p l k (by rw [HL.out]; exact h1) h2])
        generalize l.getD k 0 = cc at c0 HR1 HW HE2 hz
        clear hrun hrow hrow1 hfr hfr1 hc hrd h2
        go_wp2_with (at_builtin; refine wpList_append_run rfl _ _ 27 rfl rfl rfl HR1.out ?_)
        go_roundw
        case rel => exact ⟨k + 1, p ++ [cc], by simp, by omega, HW.out, by simp; omega, HF1.out, HE2.out⟩
        case measure => simp [intOf]; omega
    · have HN : Hid (CutRet l w (.returned (.tuple #[.string (strOf []), .slice none 0 0, .bool false])) wr) := Lib.hid ⟨HF.out, .inl ⟨by rw [HE.out, cutS_end p l k (by rw [HL.out]; omega)], rfl⟩⟩
      clear hrow hfr
      go_wp2_with fail
      go_ret3
      exact HN.out
end Go.Proofs.YtlobnbbndkhcbaaGreatDoor

/- Contracts of layer 3's readTail and Parse. -/
namespace Go.Proofs.YtlobnbbndkhcbaaGreatDoor
set_option linter.unusedVariables false
open Go.RowKit

theorem ofInt64K (a : Nat) (ha : a < 9223372036854775808) : (BitVec.ofInt 64 (a : Int)).toNat = a := by
  rw [BitVec.ofInt_natCast, BitVec.toNat_ofNat]
  exact Nat.mod_eq_of_lt (by omega)
theorem or_i64K (a b : Nat) (ha : a < 9223372036854775808) (hb : b < 9223372036854775808) : bits .or .i64 (a : Int) (b : Int) = ((a ||| b : Nat) : Int) := by
  have hx : a ||| b < 2 ^ 63 := Nat.or_lt_two_pow (by omega) (by omega)
  show IntKind.i64.wrap ((BitVec.ofInt 64 (a : Int) ||| BitVec.ofInt 64 (b : Int)).toNat : Int) = _
  rw [BitVec.toNat_or, ofInt64K a ha, ofInt64K b hb, IntKind.wrap_i64]
  omega
theorem or_byte (v c : Nat) (hv : v < 1099511627776) (hc : c < 256) : bits .or .i64 ((v : Int) * 256) (c : Int) = ((v * 256 + c : Nat) : Int) := by
  have h := Nat.shiftLeft_add_eq_or_of_lt (i := 8) (b := c) (by omega) v
  rw [Nat.shiftLeft_eq] at h
  have e : ((v : Int) * 256) = ((v * 2 ^ 8 : Nat) : Int) := by omega
  rw [e, or_i64K _ _ (by omega) (by omega), ← h]
def valN (t : List UInt8) : Nat := t.foldl (fun n c => n * 256 + c.toNat) 0
theorem valN_take (t : List UInt8) (j : Nat) (h : j < t.length) : valN (t.take (j + 1)) = valN (t.take j) * 256 + (t.getD j 0).toNat := by
  rw [List.take_add_one]
  unfold valN
  rw [List.foldl_append]
  simp [List.getD, List.getElem?_eq_getElem h]
theorem valN_lt (t : List UInt8) : ∀ j, valN (t.take j) < 256 ^ j := by
  intro j
  induction j with
  | zero => simp [valN]
  | succ j ih =>
    rcases Nat.lt_or_ge j t.length with h | h
    · rw [valN_take t j h, Nat.pow_succ]
      have := (t.getD j 0).toNat_lt
      omega
    · rw [List.take_of_length_le (by omega)] at ih ⊢
      rw [Nat.pow_succ]; omega
set_option maxRecDepth 20000 in
set_option maxHeartbeats 1000000 in
theorem readTail_c (a : Option Addr) (cap : Nat) (t : List UInt8) (w : World) (hl : t.length = 7) (hcap : 7 ≤ cap) (hr : Rd w a t) :
    Calls Tryz.prog 142 #[.slice a 7 cap] w fun e w' => e = .returned (.tuple #[.int .i64 (seqOf t), .int .i64 (kindOf t)]) ∧ Fr No w w' := by
  obtain ⟨b, o, rfl, hc⟩ := hr (by omega)
  rw [hl] at hc
  have ks := cut_hi (P := Tryz.prog) Tryz.underlying27 sizeU8K (some ⟨b, o, none⟩) 7 cap 6 (by omega)
  rw [show ((6 : Nat) : Int) = 6 from rfl] at ks
  have HC := Lib.hid hc
  have HL := Lib.hid hl
  clear hc hl hr
  go_enter Tryz.func142, Tryz.ntmps142
  go_wp2_with fail
  go_loopw [4, 10] (fun n i wr => ∃ j v : Nat, i = .int .i64 j ∧ j ≤ 6 ∧ n = .int .i64 v ∧ v = valN (t.take j) ∧ wr = w) (fun _ i _ => 6 - (intOf i).toNat)
  case atStart => exact ⟨0, 0, rfl, by omega, rfl, by simp [valN], rfl⟩
  case round =>
    obtain ⟨j, v, rfl, hj, rfl, hv, rfl⟩ := hrel
    have hlt := valN_lt t j
    rw [← hv] at hlt
    have hpow : 256 ^ j ≤ 281474976710656 := Nat.pow_le_pow_right (by omega) hj
    by_cases h1 : j < 6
    · have hpow5 : 256 ^ j ≤ 1099511627776 := Nat.pow_le_pow_right (n := 256) (by omega) (show j ≤ 5 by omega)
      have c0 := HC.out j (by omega)
      have HV := Lib.hid (valN_take t j (by rw [HL.out]; omega))
      rw [← hv] at HV
      have hcc := (t.getD j 0).toNat_lt
      generalize t.getD j 0 = c at c0 HV hcc
      have hv2 : v < 1099511627776 := by omega
      clear hlt hpow hpow5 hv
      have HO := or_byte v c.toNat hv2 hcc
      rw [show ((v * 256 + c.toNat : Nat) : Int) = (v : Int) * 256 + (c.toNat : Int) by omega] at HO
      go_wp2_with fail
      go_roundw
      case rel => exact ⟨j + 1, v * 256 + c.toNat, by simp, by omega, by simp, HV.out.symm, trivial⟩
      case measure => simp [intOf]; omega
    · have hj6 : j = 6 := by omega
      subst hj6
      have c6 := HC.out 6 (by omega)
      have hv' : v = val6 t := hv
      have HN : Hid ((1099511627776 : Int) - (v : Int) = seqOf t ∧ (255 : Int) - ((t.getD 6 0).toNat : Int) = kindOf t) := Lib.hid ⟨by rw [hv']; rfl, rfl⟩
      have hcc := (t.getD 6 0).toNat_lt
      clear hv hv' hpow
      generalize t.getD 6 0 = c at c6 HN hcc
      go_wp2_with fail
      go_quiet (fail)
      go_wp2_with fail
      go_ret2
      refine ⟨?_, (Fr.refl No _).drewN _⟩
      rw [← HN.out.1, ← HN.out.2]
      rfl

def ParseRet (l : List UInt8) (w : World) (e : Ending) (w' : World) : Prop := Fr No w w' ∧
  ((parseS l = none ∧ e = .returned (.tuple #[.agg #[.string ⟨#[]⟩, .int .i64 0, .int .i64 0], .int .i64 30])) ∨
   ∃ u q k, parseS l = some (u, q, k) ∧ e = .returned (.tuple #[.agg #[.string (strOf u), .int .i64 q, .int .i64 k], .int .i64 0]))
theorem infoKey : (Tryz.prog.info? 46).map (·.size) = some 3 := by kernel_rfl
theorem parse_results (tmps : Array Value) (w : World) (g : Nat) (t : TypeId) (x y z e : Value) (hp : tmps.getD 2 undef = .pointer (some ⟨g, 0, none⟩)) (he : tmps.getD 3 undef = e) (hg : At w g t #[x, y, z]) :
    (results Tryz.f116 tmps).run Tryz.prog w = .ok (.tuple #[.agg #[x, y, z], e]) w := by
  have hp' : tmps[2]?.getD undef = .pointer (some ⟨g, 0, none⟩) := by simpa using hp
  have he' : tmps[3]?.getD undef = e := by simpa using he
  have hl := run_loadVar_row (P := Tryz.prog) w g t 46 #[x, y, z] (0, 0) _ hg Tryz.underlying46 rfl infoKey
  simp [results, Tryz.results116, hp', he', asAddr, hl]
/-- The stores into the result. -/
theorem key_store {S : Nat → Prop} {w0 w : World} {g : Nat} {t : TypeId} {a b c : Value} (h : At w g t #[a, b, c]) (f : Fr S w0 w) (hg : w0.heap.size ≤ g) (x y z : Value) :
    At (((w.setCell ⟨g, 0, none⟩ x).setCell ⟨g, 1, none⟩ y).setCell ⟨g, 2, none⟩ z) g t #[x, y, z] ∧ Fr S w0 (((w.setCell ⟨g, 0, none⟩ x).setCell ⟨g, 1, none⟩ y).setCell ⟨g, 2, none⟩ z) :=
  ⟨((h.set_ 0 x).set_ 1 y).set_ 2 z, ((f.setCell (fun h => absurd h (Nat.not_lt_of_le hg)) x).setCell (fun h => absurd h (Nat.not_lt_of_le hg)) y).setCell (fun h => absurd h (Nat.not_lt_of_le hg)) z⟩
set_option maxRecDepth 20000 in
set_option maxHeartbeats 2000000 in
theorem parse_c (a : Option Addr) (len cap : Nat) (l : List UInt8) (w : World) (hl : l.length = len) (hcap : len ≤ cap) (hm : len ≤ 140737488355328) (hr : Rd w a l) :
    Calls Tryz.prog 116 #[.slice a len cap] w (ParseRet l w) := by
  have C0 := Lib.hid (fun w hr => cutUser_c a len cap l w hl hcap hm hr)
  have HR := Lib.hid hr
  clear hl hr
  go_enter Tryz.func116, Tryz.ntmps116
  go_wp2_with fail
  have A1 : At _ w.heap.size _ _ := At.new w 46 #[.string ⟨#[]⟩, .int .i64 0, .int .i64 0]
  have hf0 := (Fr.refl No w).alloc (.cells #[.string ⟨#[]⟩, .int .i64 0, .int .i64 0] 46)
  generalize w.alloc (.cells #[.string ⟨#[]⟩, .int .i64 0, .int .i64 0] 46) = W at *
  refine (C0.out _ (HR.out.keep hf0)).mono ?_
  rintro e w1 ⟨hf1, hret⟩
  have A2 := A1.keep hf1 (fun h => h)
  have hf1 := hf0.trans hf1
  have c0 := A2.cell 0
  have c1 := A2.cell 1
  have c2 := A2.cell 2
  have g0 := A2.frozen 0
  have g1 := A2.frozen 1
  have g2 := A2.frozen 2
  simp at c0 c1 c2
  have zs := Lib.hid (key_store A2 hf1 (Nat.le_refl _) (.string ⟨#[]⟩) (.int .i64 0) (.int .i64 0))
  have HF1 := Lib.hid hf1
  have HA2 := Lib.hid A2
  clear A1 A2 hf0 hf1 HR C0
  rcases hret with ⟨hn, rfl⟩ | ⟨u, t, a', n', c', hs, hlt, hlm, hlc, hrt, rfl⟩
  · have HP := Lib.hid (show parseS l = none by unfold parseS; rw [hn])
    clear hn
    go_wp2_with fail
    refine bodyPost_ret (v := .tuple #[.agg #[.string ⟨#[]⟩, .int .i64 0, .int .i64 0], .int .i64 30]) (parse_results _ _ w.heap.size 46 _ _ _ _ rfl rfl zs.out.1) rfl ?_
    exact ⟨zs.out.2, .inl ⟨HP.out, rfl⟩⟩
  · by_cases h7 : n' = 7
    · subst h7
      have C2 := Lib.hid (readTail_c a' c' t w1 hlt hlc hrt)
      have hu : (strOf u).size = u.length := size_of_list u
      have HP0 := Lib.hid (show parseS l = if t.length = 7 ∧ Rt u.length (seqOf t) (kindOf t) then some (u, seqOf t, kindOf t) else none by unfold parseS; rw [hs])
      rw [← hu] at HP0
      have HT := Lib.hid hlt
      obtain ⟨su, hsu⟩ : ∃ su, strOf u = su := ⟨_, rfl⟩
      have HSU := Lib.hid hsu
      rw [hsu] at HP0 hu ⊢
      clear hsu
      generalize seqOf t = q at *
      generalize kindOf t = k at *
      clear hs hlt hrt zs c0 c1 c2 g0 g1 g2 hu
      go_wp2_with fail
      refine C2.out.mono ?_
      rintro e w2 ⟨rfl, hf2⟩
      have A2 := (HA2.out.keep hf2 (fun h => h)).keep ((Fr.refl No w2).alloc (.cells #[.string su, .int .i64 q, .int .i64 k] 46)) (fun h => h)
      have B2 : At _ w2.heap.size _ _ := At.new w2 46 #[.string su, .int .i64 q, .int .i64 k]
      have hf2 := (HF1.out.trans hf2).alloc (.cells #[.string su, .int .i64 q, .int .i64 k] 46)
      go_wp2_with fail
      generalize w2.alloc (.cells #[.string su, .int .i64 q, .int .i64 k] 46) = W2 at *
      clear C2 HA2
      by_cases hrt : Rt su.size q k
      · refine (check_yes su q k _ hrt).mono ?_
        rintro e w3 ⟨rfl, hf3⟩
        have A3 := A2.keep hf3 (fun h => h)
        have B3 := B2.keep hf3 (fun h => h)
        have hf3 := hf2.trans hf3
        have zs := Lib.hid (key_store A3 hf3 (Nat.le_refl _) (.string su) (.int .i64 q) (.int .i64 k))
        have HP := Lib.hid (HP0.out.trans (if_pos ⟨HT.out, hrt⟩))
        have c0 := A3.cell 0
        have c1 := A3.cell 1
        have c2 := A3.cell 2
        have g0 := A3.frozen 0
        have g1 := A3.frozen 1
        have g2 := A3.frozen 2
        have b0 := B3.cell 0
        have b1 := B3.cell 1
        have b2 := B3.cell 2
        simp at c0 c1 c2 b0 b1 b2
        clear A2 A3 B2 B3 hf2 hf3 hrt HP0
        go_wp2_with fail
        refine bodyPost_ret (v := .tuple #[.agg #[.string su, .int .i64 q, .int .i64 k], .int .i64 0]) (parse_results _ _ w.heap.size 46 _ _ _ _ rfl rfl zs.out.1) rfl ?_
        exact ⟨zs.out.2, .inr ⟨u, q, k, HP.out, by rw [HSU.out]⟩⟩
      · refine (check_no su q k _ hrt).mono ?_
        rintro e w3 ⟨rfl, hf3⟩
        have A3 := A2.keep hf3 (fun h => h)
        have hf3 := hf2.trans hf3
        have zs := Lib.hid (key_store A3 hf3 (Nat.le_refl _) (.string ⟨#[]⟩) (.int .i64 0) (.int .i64 0))
        have HP := Lib.hid (HP0.out.trans (if_neg (fun h => hrt h.2)))
        have c0 := A3.cell 0
        have c1 := A3.cell 1
        have c2 := A3.cell 2
        have g0 := A3.frozen 0
        have g1 := A3.frozen 1
        have g2 := A3.frozen 2
        simp at c0 c1 c2
        clear A2 A3 B2 hf2 hf3 hrt HP0
        go_wp2_with fail
        refine bodyPost_ret (v := .tuple #[.agg #[.string ⟨#[]⟩, .int .i64 0, .int .i64 0], .int .i64 30]) (parse_results _ _ w.heap.size 46 _ _ _ _ rfl rfl zs.out.1) rfl ?_
        exact ⟨zs.out.2, .inl ⟨HP.out, rfl⟩⟩
    · have HP := Lib.hid (show parseS l = none by unfold parseS; rw [hs]; exact if_neg (fun h => h7 (hlt.symm.trans h.1)))
      clear hs hlt hrt
      go_wp2_with fail
      refine bodyPost_ret (v := .tuple #[.agg #[.string ⟨#[]⟩, .int .i64 0, .int .i64 0], .int .i64 30]) (parse_results _ _ w.heap.size 46 _ _ _ _ rfl rfl zs.out.1) rfl ?_
      exact ⟨zs.out.2, .inl ⟨HP.out, rfl⟩⟩
end Go.Proofs.YtlobnbbndkhcbaaGreatDoor

/- Layer 11, mathematics: entries in order; what a user's key has at a number. -/
namespace Go.Proofs.YtlobnbbndkhcbaaGreatDoor
set_option linter.unusedVariables false

theorem cmpE_neg (x y : Ent) : cmpE y x = - cmpE x y := cmpK_neg _ _ _ _ _ _
theorem cmpE_range (x y : Ent) : cmpE x y = -1 ∨ cmpE x y = 0 ∨ cmpE x y = 1 := cmpK_range _ _ _ _ _ _
theorem cmpE_zero (x y : Ent) : cmpE x y = 0 ↔ (x.u = y.u ∧ x.q = y.q ∧ x.k = y.k) := by
  unfold cmpE
  rw [cmpK_zero]
  constructor
  · rintro ⟨h1, h2, h3⟩
    refine ⟨?_, h2, h3⟩
    obtain ⟨⟨⟨a⟩⟩, _, _, _⟩ := x
    obtain ⟨⟨⟨b⟩⟩, _, _, _⟩ := y
    have : a = b := h1
    rw [this]
  · rintro ⟨h1, h2, h3⟩
    exact ⟨by rw [h1], h2, h3⟩
theorem cmpE_trans {x y z : Ent} (h1 : cmpE x y < 0) (h2 : cmpE y z < 0) : cmpE x z < 0 := by
  have h := cmpK_trans x.u.data.toList x.q x.k y.u.data.toList y.q y.k z.u.data.toList z.q z.k
    (show cmpK x.u.data.toList x.q x.k y.u.data.toList y.q y.k ≤ 0 from Int.le_of_lt h1)
    (show cmpK y.u.data.toList y.q y.k z.u.data.toList z.q z.k ≤ 0 from Int.le_of_lt h2)
  have h3 : cmpE x z ≤ 0 := h
  rcases Int.lt_or_eq_of_le h3 with h4 | h4
  · exact h4
  · exfalso
    obtain ⟨e1, e2, e3⟩ := (cmpE_zero x z).1 h4
    have e : cmpE y z = cmpE y x := by unfold cmpE; rw [e1, e2, e3]
    rw [e, cmpE_neg x y] at h2
    omega
/-- Entries in order: strictly rising. -/
def Srt (l : List Ent) : Prop := l.Pairwise fun a b => cmpE a b < 0
theorem putL_srt {x : Ent} : ∀ {l : List Ent}, Srt l → (∀ e ∈ l, cmpE x e ≠ 0) → Srt (putL x l)
  | [], _, _ => by unfold putL Srt; simp
  | e :: l, h, hne => by
    have h' := List.pairwise_cons.1 h
    unfold putL
    by_cases hc : cmpE x e < 0
    · rw [if_pos hc]
      refine List.pairwise_cons.2 ⟨fun y hy => ?_, h⟩
      rcases List.mem_cons.1 hy with rfl | hy
      · exact hc
      · exact cmpE_trans hc (h'.1 y hy)
    · rw [if_neg hc]
      refine List.pairwise_cons.2 ⟨fun y hy => ?_, putL_srt h'.2 fun y hy => hne y (List.mem_cons_of_mem _ hy)⟩
      rcases putL_mem.1 hy with rfl | hy
      · have h0 := hne e (List.mem_cons_self ..)
        have := cmpE_neg y e
        rcases cmpE_range y e with h | h | h <;> omega
      · exact h'.1 y hy
/-- Is an entry one of the user's that is at most so new? -/
def sees (u : ByteArray) (at_ : Int) (e : Ent) : Bool := decide (e.u = u) && decide (e.q ≤ at_)
/-- IN ORDER, the first that is seen is what the key has. -/
theorem bestI_srt {l : List Ent} (h : Srt l) (u : ByteArray) (at_ : Int) : ∀ n, n ≤ l.length →
    (bestI l u at_ n = -1 ∧ ∀ i, i < n → sees u at_ (l.getD i ent0) = false) ∨
    ∃ j, j < n ∧ bestI l u at_ n = (j : Int) ∧ sees u at_ (l.getD j ent0) = true ∧ ∀ i, i < j → sees u at_ (l.getD i ent0) = false
  | 0, _ => .inl ⟨rfl, fun i h => absurd h (by omega)⟩
  | n + 1, hn => by
    have e : bestI l u at_ (n + 1) = if takesE l u at_ (bestI l u at_ n) n then (n : Int) else bestI l u at_ n := rfl
    rcases bestI_srt h u at_ n (by omega) with ⟨h1, h2⟩ | ⟨j, hj, h1, h2, h3⟩
    · rw [h1] at e
      have ht : takesE l u at_ (-1) n = sees u at_ (l.getD n ent0) := by
        unfold takesE sees
        simp
      rw [ht] at e
      cases hs : sees u at_ (l.getD n ent0) with
      | true =>
        rw [hs] at e
        exact .inr ⟨n, by omega, e, hs, h2⟩
      | false =>
        rw [hs] at e
        refine .inl ⟨e, fun i hi => ?_⟩
        rcases Nat.lt_or_ge i n with h | h
        · exact h2 i h
        · have : i = n := by omega
          rw [this]
          exact hs
    · rw [h1] at e
      have hlt : cmpE (l.getD j ent0) (l.getD n ent0) < 0 := by
        have := List.pairwise_iff_getElem.1 h j n (by omega) (by omega) hj
        rw [getD_ent l j (by omega), getD_ent l n (by omega)]
        exact this
      have ht : takesE l u at_ (j : Int) n = false := by
        have hd : decide (cmpE (l.getD n ent0) (l.getD j ent0) < 0) = false := by
          rw [decide_eq_false_iff_not, cmpE_neg (l.getD j ent0) (l.getD n ent0)]
          omega
        have hz : decide ((j : Int) < 0) = false := by rw [decide_eq_false_iff_not]; omega
        unfold takesE
        rw [Int.toNat_natCast, hz, hd]
        simp
      rw [ht] at e
      exact .inr ⟨j, by omega, e, h2, h3⟩
theorem getE_srt {l : List Ent} (h : Srt l) (u : ByteArray) (at_ : Int) :
    (getE l u at_ = -1 ∧ ∀ e ∈ l, sees u at_ e = false) ∨
    ∃ j, j < l.length ∧ getE l u at_ = (j : Int) ∧ sees u at_ (l.getD j ent0) = true ∧ ∀ e ∈ l, sees u at_ e = true → cmpE (l.getD j ent0) e ≤ 0 := by
  rcases bestI_srt h u at_ l.length (Nat.le_refl _) with ⟨h1, h2⟩ | ⟨j, hj, h1, h2, h3⟩
  · refine .inl ⟨h1, fun e he => ?_⟩
    obtain ⟨i, hi, rfl⟩ := List.mem_iff_getElem.1 he
    rw [← getD_ent l i hi]
    exact h2 i hi
  · refine .inr ⟨j, hj, h1, h2, fun e he hs => ?_⟩
    obtain ⟨i, hi, rfl⟩ := List.mem_iff_getElem.1 he
    rcases Nat.lt_trichotomy i j with h4 | h4 | h4
    · rw [← getD_ent l i hi, h3 i h4] at hs
      cases hs
    · subst h4
      rw [getD_ent l i hi]
      have := (cmpE_zero l[i] l[i]).2 ⟨rfl, rfl, rfl⟩
      omega
    · have := List.pairwise_iff_getElem.1 h j i (by omega) hi h4
      rw [getD_ent l j hj]
      omega
end Go.Proofs.YtlobnbbndkhcbaaGreatDoor

/- Layer 13, mathematics: entries in order; what stands outside. -/
namespace Go.Proofs.YtlobnbbndkhcbaaGreatDoor
set_option linter.unusedVariables false

theorem rightL_lt {l : List Ent} (h : RightL l) (i : Nat) : ∀ d, i + d + 1 < l.length → cmpE (l.getD i ent0) (l.getD (i + d + 1) ent0) < 0
  | 0, hd => by
    have := (h.1 (i + 1) (by omega)).2 (by omega)
    simpa using this
  | d + 1, hd => by
    have h1 := rightL_lt h i d (by omega)
    have h2 := (h.1 (i + d + 1 + 1) (by omega)).2 (by omega)
    rw [show i + d + 1 + 1 - 1 = i + d + 1 by omega] at h2
    exact cmpE_trans h1 h2
theorem rightL_lt' {l : List Ent} (h : RightL l) {i j : Nat} (hij : i < j) (hj : j < l.length) : cmpE (l.getD i ent0) (l.getD j ent0) < 0 := by
  have := rightL_lt h i (j - i - 1) (by omega)
  rw [show i + (j - i - 1) + 1 = j by omega] at this
  exact this
theorem RightL.srt {l : List Ent} (h : RightL l) : Srt l := by
  refine List.pairwise_iff_getElem.2 fun i j hi hj hij => ?_
  have := rightL_lt' h hij hj
  rw [getD_ent l i hi, getD_ent l j hj] at this
  exact this
theorem cmpE_self (x : Ent) : cmpE x x = 0 := (cmpE_zero x x).2 ⟨rfl, rfl, rfl⟩
theorem rightL_first {l : List Ent} (h : RightL l) (k : Nat) (hk : k < l.length) : ¬ cmpE (l.getD k ent0) (l.getD 0 ent0) < 0 := by
  rcases Nat.eq_zero_or_pos k with h0 | h0
  · subst h0
    rw [cmpE_self]
    decide
  · have := rightL_lt' h h0 hk
    rw [cmpE_neg]
    omega
theorem rightL_last {l : List Ent} (h : RightL l) (k : Nat) (hk : k < l.length) : ¬ cmpE (l.getD k ent0) (l.getD (l.length - 1) ent0) > 0 := by
  rcases Nat.lt_or_ge k (l.length - 1) with h0 | h0
  · have := rightL_lt' h h0 (by omega)
    omega
  · obtain rfl : k = l.length - 1 := by omega
    rw [cmpE_self]
    decide
theorem cmpE_users {x y : Ent} (h : ¬ cmpE x y > 0) : cmpB x.u.data.toList y.u.data.toList ≤ 0 := by
  by_cases hu : x.u.data.toList = y.u.data.toList
  · rw [hu, cmpB_self]
    exact Int.le_refl 0
  · have := cmpK_other hu x.q x.k y.q y.k
    unfold cmpE at h
    omega
/-- What is there stands from the first to the last. -/
theorem got_between {l : List Ent} (h : RightL l) {u : ByteArray} {at_ : Int} (hg : 0 ≤ getE l u at_) : ¬ cmpB u.data.toList (l.getD 0 ent0).u.data.toList < 0 ∧ ¬ cmpB u.data.toList (l.getD (l.length - 1) ent0).u.data.toList > 0 := by
  rcases getE_srt h.srt u at_ with ⟨h1, _⟩ | ⟨j, hj, _, hs, _⟩
  · omega
  · have hu : (l.getD j ent0).u = u := by
      unfold sees at hs
      simp at hs
      simpa using hs.1
    have h1 := rightL_first h j hj
    have h2 := rightL_last h j hj
    rw [cmpE_neg] at h1
    have h3 := cmpE_users (x := l.getD 0 ent0) (y := l.getD j ent0) (by omega)
    have h4 := cmpE_users h2
    rw [hu] at h3 h4
    rw [cmpB_neg] at h3
    omega
end Go.Proofs.YtlobnbbndkhcbaaGreatDoor

/- Layer 13, mathematics: what a key has in two parts. -/
namespace Go.Proofs.YtlobnbbndkhcbaaGreatDoor
set_option linter.unusedVariables false

/-- The first that is seen, or -1. -/
def FirstE (l : List Ent) (u : ByteArray) (at_ : Int) (g : Int) : Prop :=
  (g = -1 ∧ ∀ i, i < l.length → sees u at_ (l.getD i ent0) = false) ∨ ∃ j : Nat, j < l.length ∧ g = (j : Int) ∧ sees u at_ (l.getD j ent0) = true ∧ ∀ i, i < j → sees u at_ (l.getD i ent0) = false
theorem Srt.first {l : List Ent} (h : Srt l) (u : ByteArray) (at_ : Int) : FirstE l u at_ (getE l u at_) := bestI_srt h u at_ l.length (Nat.le_refl _)
theorem FirstE.same {l : List Ent} {u : ByteArray} {at_ g g' : Int} (h : FirstE l u at_ g) (h' : FirstE l u at_ g') : g = g' := by
  rcases h with ⟨rfl, h⟩ | ⟨j, hj, rfl, h, h1⟩ <;> rcases h' with ⟨rfl, h'⟩ | ⟨j', hj', rfl, h', h1'⟩
  · rfl
  · rw [h j' hj'] at h'
    exact absurd h' (by decide)
  · rw [h' j hj] at h
    exact absurd h (by decide)
  · rcases Nat.lt_trichotomy j j' with h2 | h2 | h2
    · rw [h1' j h2] at h
      exact absurd h (by decide)
    · rw [h2]
    · rw [h1 j' h2] at h'
      exact absurd h' (by decide)
theorem Srt.take {l : List Ent} (h : Srt l) (c : Nat) : Srt (l.take c) := List.Pairwise.sublist (List.take_sublist c l) h
theorem Srt.drop {l : List Ent} (h : Srt l) (c : Nat) : Srt (l.drop c) := List.Pairwise.sublist (List.drop_sublist c l) h
theorem parts_get {l : List Ent} (h : Srt l) (c : Nat) (hc : c ≤ l.length) (u : ByteArray) (at_ : Int) :
    (0 ≤ getE (l.take c) u at_ → 0 ≤ getE l u at_ ∧ gotE l u at_ = gotE (l.take c) u at_) ∧
    (getE (l.take c) u at_ < 0 → (0 ≤ getE l u at_ ↔ 0 ≤ getE (l.drop c) u at_) ∧ gotE l u at_ = gotE (l.drop c) u at_) := by
  have F := h.first u at_
  have F1 := (h.take c).first u at_
  have F2 := (h.drop c).first u at_
  have hl1 : (l.take c).length = c := by rw [List.length_take]; omega
  have hl2 : (l.drop c).length = l.length - c := List.length_drop
  unfold gotE
  generalize getE l u at_ = g at *
  generalize getE (l.take c) u at_ = g1 at *
  generalize getE (l.drop c) u at_ = g2 at *
  rcases F1 with ⟨rfl, h1⟩ | ⟨j, hj, rfl, h1, h2⟩
  · refine ⟨fun h => absurd h (by decide), fun _ => ?_⟩
    have h1' : ∀ i, i < c → sees u at_ (l.getD i ent0) = false := fun i hi => by
      have := h1 i (by omega)
      rw [getD_take_et l c i hi] at this
      exact this
    rcases F2 with ⟨rfl, h3⟩ | ⟨j, hj, rfl, h3, h4⟩
    · have hF : FirstE l u at_ (-1) := .inl ⟨rfl, fun i hi => by
        rcases Nat.lt_or_ge i c with h5 | h5
        · exact h1' i h5
        · have := h3 (i - c) (by omega)
          rw [getD_drop_et, show c + (i - c) = i by omega] at this
          exact this⟩
      obtain rfl := F.same hF
      exact ⟨Iff.rfl, rfl⟩
    · have hF : FirstE l u at_ ((c + j : Nat) : Int) := .inr ⟨c + j, by omega, rfl, by rw [← getD_drop_et]; exact h3, fun i hi => by
        rcases Nat.lt_or_ge i c with h5 | h5
        · exact h1' i h5
        · have := h4 (i - c) (by omega)
          rw [getD_drop_et, show c + (i - c) = i by omega] at this
          exact this⟩
      obtain rfl := F.same hF
      refine ⟨⟨fun _ => by omega, fun _ => by omega⟩, ?_⟩
      rw [if_neg (by omega), if_neg (by omega), Int.toNat_natCast, Int.toNat_natCast, getD_drop_et]
  · refine ⟨fun _ => ?_, fun h => absurd h (by omega)⟩
    rw [hl1] at hj
    rw [getD_take_et l c j hj] at h1
    have hF : FirstE l u at_ (j : Int) := .inr ⟨j, by omega, rfl, h1, fun i hi => by
      have := h2 i hi
      rw [getD_take_et l c i (by omega)] at this
      exact this⟩
    obtain rfl := F.same hF
    refine ⟨by omega, ?_⟩
    rw [if_neg (by omega), if_neg (by omega), Int.toNat_natCast, getD_take_et l c j hj]
end Go.Proofs.YtlobnbbndkhcbaaGreatDoor

/- Contracts of layer 3's Sees. -/
namespace Go.Proofs.YtlobnbbndkhcbaaGreatDoor
set_option linter.unusedVariables false
open Go.RowKit

theorem sees_c (s : ByteArray) (q k at_ : Int) (w : World) :
    Calls Tryz.prog 90 #[.agg #[.string s, .int .i64 q, .int .i64 k], .int .i64 at_] w (PlainRet (.bool (decide (q ≤ at_))) w) := by
  go_enter Tryz.func90, Tryz.ntmps90
  go_wp2_with fail
  go_ret
  exact ⟨rfl, (Fr.refl _ _).alloc _⟩
end Go.Proofs.YtlobnbbndkhcbaaGreatDoor
